"""[11], and of [1] to [3] what sheets keep."""

import inspect
import unittest

from everybase.errors import FigureError, InvalidBase, InvalidRow, NoRow, Stopped
from everybase.programs import Program, Sheet
from everybase.rows import If, Put, Stop, Times
from tests.samples import NO_PLACES, NO_ROW, NO_ROWS, SAME, X_LET_Y

BLOCK = If(SAME, [Times(2, [Stop()])], [Stop()])
X_BASE = Put("x", "base")
ROWS = (X_LET_Y, BLOCK, Stop())


def texts(sheet):
    return [str(sheet[at]) for at in range(len(sheet))]


class Checks(unittest.TestCase):

    def refused_rows(self, work, *given):
        with self.assertRaises(InvalidRow, msg=given) as caught:
            work(*given)
        self.assertEqual(caught.exception.word, "rows")
        self.assertIsInstance(caught.exception, FigureError)

    def no_row(self, at, work, *given):
        with self.assertRaises(NoRow, msg=given) as caught:
            work(*given)
        self.assertIs(caught.exception.at, at)

    def assert_rows(self, sheet, *rows):
        self.assertEqual(texts(sheet), [str(row) for row in rows])
        self.assertEqual(len(sheet), len(rows))
        self.assertEqual(sheet.made(), Program(rows))


def put_in(sheet, at, row):
    sheet[at] = row


def add(sheet, row):
    sheet += row


class Plain(Checks):

    def test_made_of_rows(self):
        self.assert_rows(Sheet(ROWS), *ROWS)
        self.assert_rows(Sheet(list(ROWS)), *ROWS)
        self.assert_rows(Sheet(rows=[X_BASE]), X_BASE)
        for empty in (Sheet(), Sheet([]), Sheet(())):
            self.assert_rows(empty)

    def test_what_are_no_rows(self):
        for wrong in NO_ROWS:
            self.refused_rows(Sheet, wrong)

    def test_a_list_that_is_handed_in(self):
        some = [X_LET_Y]
        sheet = Sheet(some)
        some.append(Stop())
        self.assert_rows(sheet, X_LET_Y)
        sheet += X_BASE
        sheet.drop(0)
        self.assertEqual(some, [X_LET_Y, Stop()])

    def test_a_block_is_one_row(self):
        sheet = Sheet(ROWS)
        self.assertEqual(len(sheet), 3)
        self.assertEqual((sheet[0], sheet[1], sheet[2]), ROWS)
        self.assertIs(sheet[1], BLOCK)
        self.assertEqual(len(sheet.made()), 6)

    def test_index_of_no_row(self):
        for sheet in (Sheet(), Sheet([Stop()]), Sheet(ROWS)):
            for at in NO_PLACES + (len(sheet),):
                self.no_row(at, lambda: sheet[at])

    def test_made_gives_programs_that_stay(self):
        sheet = Sheet([X_LET_Y])
        one = sheet.made()
        sheet += Stop()
        sheet[0] = X_BASE
        two = sheet.made()
        self.assertEqual((str(one), str(two)), ("x = let y", "x = base\nstop"))
        self.assertIs(type(one), Program)
        self.assertEqual((two.names, sheet.made()), (("x",), two))


class Changed(Checks):

    def test_an_item_is_set(self):
        sheet = Sheet(ROWS)
        sheet[0] = X_BASE
        self.assert_rows(sheet, X_BASE, BLOCK, Stop())
        sheet[1] = X_LET_Y
        self.assert_rows(sheet, X_BASE, X_LET_Y, Stop())
        sheet[2] = BLOCK
        self.assert_rows(sheet, X_BASE, X_LET_Y, BLOCK)

    def test_an_item_that_cannot_be_set(self):
        sheet = Sheet(ROWS)
        for at in NO_PLACES + (3,):
            self.no_row(at, put_in, sheet, at, Stop())
            for wrong in NO_ROW:
                self.no_row(at, put_in, sheet, at, wrong)
        for wrong in NO_ROW:
            for at in range(3):
                self.refused_rows(put_in, sheet, at, wrong)
        self.no_row(0, put_in, Sheet(), 0, None)
        self.assert_rows(sheet, *ROWS)

    def test_a_row_behind_all_others_in_place(self):
        sheet = kept = Sheet()
        sheet += X_LET_Y
        sheet += BLOCK
        sheet += X_LET_Y
        self.assertIs(sheet, kept)
        self.assert_rows(kept, X_LET_Y, BLOCK, X_LET_Y)

    def test_what_cannot_be_added(self):
        sheet = kept = Sheet(ROWS)
        for wrong in NO_ROW:
            self.refused_rows(add, sheet, wrong)
        self.assertIs(sheet, kept)
        self.assert_rows(sheet, *ROWS)

    def test_drop(self):
        for at in range(3):
            sheet = Sheet(ROWS)
            self.assertIsNone(sheet.drop(at))
            self.assert_rows(sheet, *ROWS[:at], *ROWS[at + 1:])
        sheet = Sheet([Stop(), X_BASE, Stop()])
        sheet.drop(at=2)
        self.assert_rows(sheet, Stop(), X_BASE)
        sheet.drop(0)
        sheet.drop(0)
        self.assert_rows(sheet)
        self.no_row(0, sheet.drop, 0)

    def test_drop_of_no_row(self):
        sheet = Sheet(ROWS)
        for at in NO_PLACES + (3,):
            self.no_row(at, sheet.drop, at)
        self.assert_rows(sheet, *ROWS)


class Trials(Checks):

    def test_the_value_is_the_sheet(self):
        sheet = Sheet(ROWS)
        with sheet.trial() as held:
            self.assertIs(held, sheet)

    def test_the_rows_come_back(self):
        sheet = Sheet(ROWS)
        with sheet.trial():
            sheet += X_BASE
            sheet.drop(0)
            sheet[0] = X_LET_Y
            self.assert_rows(sheet, X_LET_Y, Stop(), X_BASE)
        self.assert_rows(sheet, *ROWS)

    def test_each_change_is_taken_back(self):
        for change in (lambda s: put_in(s, 1, X_BASE), lambda s: s.drop(0), lambda s: add(s, X_BASE)):
            sheet = Sheet(ROWS)
            with sheet.trial() as held:
                change(held)
                self.assertNotEqual(sheet.made(), Program(ROWS))
            self.assert_rows(sheet, *ROWS)

    def test_changes_by_the_name_of_the_value(self):
        sheet = Sheet()
        with sheet.trial() as held:
            held += Stop()
            self.assert_rows(sheet, Stop())
        self.assert_rows(sheet)
        held += X_BASE
        self.assert_rows(sheet, X_BASE)

    def test_a_new_manager_each_time(self):
        sheet = Sheet(ROWS)
        one, two = sheet.trial(), sheet.trial()
        self.assertIsNot(one, two)
        self.assertIsNot(one, sheet)
        self.assert_rows(sheet, *ROWS)

    def test_the_rows_are_those_when_it_is_entered(self):
        sheet = Sheet([X_LET_Y])
        trial = sheet.trial()
        sheet += Stop()
        with trial:
            sheet.drop(0)
            self.assert_rows(sheet, Stop())
        self.assert_rows(sheet, X_LET_Y, Stop())

    def test_behind_an_error(self):
        for error in (Stopped(3), InvalidRow("rows"), NoRow(9), ValueError("own"), KeyError(1), ZeroDivisionError(),
                      KeyboardInterrupt(), GeneratorExit(), StopIteration()):
            sheet = Sheet(ROWS)
            with self.assertRaises(type(error)) as caught:
                with sheet.trial():
                    sheet.drop(1)
                    sheet += X_BASE
                    raise error
            self.assertIs(caught.exception, error)
            self.assert_rows(sheet, *ROWS)

    def test_behind_errors_that_the_sheet_and_its_program_raise(self):
        sheet = Sheet([X_BASE])
        with self.assertRaises(NoRow) as caught:
            with sheet.trial():
                sheet += Stop()
                sheet[2] = Stop()
        self.assertEqual(caught.exception.at, 2)
        self.assert_rows(sheet, X_BASE)
        with self.assertRaises(Stopped):
            with sheet.trial():
                sheet += Stop()
                sheet.made()(10)
        self.assert_rows(sheet, X_BASE)
        with self.assertRaises(InvalidBase):
            with sheet.trial() as held:
                held[0] = Stop()
                held.made()(1)
        self.assert_rows(sheet, X_BASE)

    def test_trials_within_trials(self):
        sheet = Sheet([X_BASE])
        with sheet.trial():
            sheet += X_LET_Y
            with sheet.trial() as held:
                sheet.drop(0)
                with held.trial():
                    sheet[0] = Stop()
                    self.assert_rows(sheet, Stop())
                self.assert_rows(sheet, X_LET_Y)
            self.assert_rows(sheet, X_BASE, X_LET_Y)
            with sheet.trial():
                sheet += BLOCK
            self.assert_rows(sheet, X_BASE, X_LET_Y)
        self.assert_rows(sheet, X_BASE)

    def test_an_error_in_an_inner_trial(self):
        sheet = Sheet([X_BASE])
        with sheet.trial():
            sheet += X_LET_Y
            with self.assertRaises(ValueError):
                with sheet.trial():
                    sheet.drop(0)
                    raise ValueError()
            self.assert_rows(sheet, X_BASE, X_LET_Y)
        with self.assertRaises(LookupError):
            with sheet.trial():
                sheet.drop(0)
                with sheet.trial():
                    sheet += Stop()
                    raise LookupError()
        self.assert_rows(sheet, X_BASE)

    def test_a_block_that_is_left_on_the_way(self):
        sheet = Sheet([X_BASE])

        def leave():
            with sheet.trial() as held:
                held += Stop()
                return len(sheet)

        self.assertEqual(leave(), 2)
        for _ in range(3):
            with sheet.trial():
                sheet.drop(0)
                continue
        self.assert_rows(sheet, X_BASE)

    def test_two_sheets(self):
        one, two = Sheet([X_BASE]), Sheet([Stop()])
        with one.trial(), two.trial():
            one += Stop()
            two.drop(0)
        self.assert_rows(one, X_BASE)
        self.assert_rows(two, Stop())
        with one.trial():
            two += X_BASE
        self.assert_rows(two, Stop(), X_BASE)

    def test_changes_afterwards_stay(self):
        sheet = Sheet(ROWS)
        with sheet.trial():
            sheet.drop(0)
        sheet.drop(0)
        self.assert_rows(sheet, BLOCK, Stop())


class Within(Checks):

    def test_what_the_work_returns(self):
        sheet = Sheet(ROWS)
        self.assertEqual(sheet.within(len), 3)
        self.assertIs(sheet.within(lambda held: held), sheet)
        self.assertIsNone(sheet.within(work=lambda held: None))
        self.assertEqual(sheet.within(texts), [str(row) for row in ROWS])

    def test_the_rows_come_back(self):
        sheet = Sheet([X_BASE])

        def work(held):
            held += Stop()
            held[0] = X_LET_Y
            return held.made()

        self.assertEqual(str(sheet.within(work)), "x = let y\nstop")
        self.assert_rows(sheet, X_BASE)

    def test_an_error_goes_on(self):
        for error in (NoRow(1), Stopped(0), RuntimeError("own")):
            sheet = Sheet([X_BASE])

            def work(held):
                held.drop(0)
                raise error

            with self.assertRaises(type(error)) as caught:
                sheet.within(work)
            self.assertIs(caught.exception, error)
            self.assert_rows(sheet, X_BASE)

    def test_within_within(self):
        sheet = Sheet([X_BASE])

        def outer(held):
            held += Stop()
            inner = held.within(lambda one: (one.drop(0), len(one))[1])
            return inner, len(held)

        self.assertEqual(sheet.within(outer), (1, 2))
        self.assert_rows(sheet, X_BASE)

    def test_the_work_is_called_once(self):
        seen = []
        Sheet().within(seen.append)
        self.assertEqual(len(seen), 1)


class Shape(Checks):

    def test_a_sheet_and_a_trial_are_not_iterable(self):
        for one in (Sheet(), Sheet(ROWS), Sheet(ROWS).trial()):
            for work in (iter, list, tuple):
                with self.assertRaises(TypeError):
                    work(one)
            with self.assertRaises(TypeError):
                Stop() in one

    def test_the_methods_stand_in_the_class(self):
        for name in ("__init__", "drop", "made", "trial", "within", "__len__", "__getitem__", "__setitem__", "__iadd__"):
            self.assertIn(name, vars(Sheet))
        self.assertEqual(Sheet.__module__, "everybase.programs")

    def test_parameters(self):
        for work, told in ((Sheet, "(rows=())"), (Sheet.drop, "(self, at)"), (Sheet.made, "(self)"),
                           (Sheet.trial, "(self)"), (Sheet.within, "(self, work)")):
            self.assertEqual(str(inspect.signature(work)), told)

    def test_the_same_call_returns_an_equal_result(self):
        sheet = Sheet(ROWS)
        one = sheet.made()
        sheet.trial()
        sheet.within(lambda held: held.drop(0))
        self.assertEqual(sheet.made(), one)
        self.assertEqual((len(sheet), sheet[0]), (3, X_LET_Y))


if __name__ == "__main__":
    unittest.main()
