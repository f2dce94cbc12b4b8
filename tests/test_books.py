"""[24], [25], and of [4] the one book and the sets that are told whole: books, beside runs in many bases."""

import unittest

from everybase.bases import Bases
from everybase.books import Book, book
from everybase.errors import InvalidBase, NoName, NoRow, NotWhole, Stopped
from everybase.measures import measures
from everybase.programs import Program
from everybase.rows import Ask, Not
from everybase.runs import came_to, holds, run
from everybase.terms import Term
from everybase.worths import Worth
from tests.measured import BIG, SAMPLES, is_measured, made
from tests.reference import asked, reference
from tests.samples import NO_BASES, NO_NAMES, NO_PLACES, fields, program

BASES = tuple(range(2, 70)) + BIG
ASKS = (Ask("same", "x", "y"), Ask("less", "x", "z"), Ask("divides", "y", "x"), Ask("mirrored", "z"),
        Ask("unlike", "x"),
        Not(Ask("same", "z", "u")), Not(Not(Ask("divides", "z", "y"))), Not(Ask("mirrored", "u")))
HALF = program("x = figures 1 0 0", "y = number 2", "z = x // y", "u = z - y", "if divides y x", "u = turned u", "end")


class Beside(unittest.TestCase):
    """Programs beside their runs."""

    def assert_runs(self, one, bases):
        told, text = book(one), str(one)
        worths = {name: told[name] for name in one.names}
        stops, nothing = told.stops(), told["q"]
        rows = [(told.stops(at), told.comes(at)) for at in range(len(one))]
        for base in bases:
            held, stop, came = reference(text, base)
            self.assertEqual(base in stops, stop is not None, (text, base))
            self.assertEqual(nothing(base), None if stop is not None else 0)
            for at, (stopping, coming) in enumerate(rows):
                self.assertEqual((base in stopping, base in coming), (stop == at, at in came), (text, base, at))
            for name in one.names:
                self.assertEqual(worths[name](base), None if held is None else held.get(name, 0), (text, base, name))
            if base >= told.start:
                self.assertEqual(self.told_at(told, base), stop if held is None else {n: held.get(n,
                    0) for n in one.names})
        self.assert_least(told, text)

    def told_at(self, told, base):
        tale = told.tale(base)
        try:
            return tale if isinstance(tale, int) else {name: term(base) for name, term in tale.items()}
        except NotWhole:
            return None

    def assert_least(self, told, text):
        tales = [told.tale(rest) for rest in range(told.period)]
        for short in range(1, told.period):
            if told.period % short == 0:
                self.assertNotEqual(tales, tales[:short] * (told.period // short), text)
        if told.start > 2:
            held, stop, _ = reference(text, told.start - 1)
            held = stop if held is None else {name: held.get(name, 0) for name in told.names}
            self.assertNotEqual(self.told_at(told, told.start - 1), held, text)

    def assert_where(self, one, test, bases):
        where = book(one).where(test)
        for base in bases:
            held = reference(str(one), base)[0]
            holds_there = held is not None and asked(str(test).split(), held, base)
            self.assertEqual(base in where, holds_there, (str(one), str(test), base))

    def test_each_deed_and_test(self):
        for one in SAMPLES:
            self.assertTrue(is_measured(one), str(one))
            self.assert_runs(one, tuple(range(2, 150)) + BIG)
            for test in ASKS:
                if is_measured(one, test):
                    self.assert_where(one, test, BASES)

    def test_many_programs(self):
        for one, test in made(1, 400):
            self.assert_runs(one, BASES)
            self.assert_where(one, test, BASES)

    def test_near_the_limits(self):
        for one in (
            program("x = figures 31 1 11", "x = x * x", "y = base", "y = turned y", "y = joined x y"),
            program("x = base", "y = number 15", "z = x // y", "z = z * z", "z = turned z"),
            program("x = figures 1 0 0 0", "y = number 19", "z = rest x y", "y = number 5", "u = rest x y",
                    "z = z + u"),
            program("x = figures 35 35", "times 3", "if unlike x", "times 3", "y = x + y", "end", "else", "stop", "end",
                    "end"),
            program("x = base", "y = number 70", "z = x // y", "u = greatest x"),
        ):
            length, size, period = measures(one)
            self.assertTrue(is_measured(one) and max(size, size * period) > 500, (str(one), length, size, period))
            self.assert_runs(one, tuple(range(2, 60)) + (350, 351, 720, 4000) + BIG)


class Books(unittest.TestCase):

    def test_the_document(self):
        p = program("x = figures 1 1", "y = x * x", "z = sum y", "if mirrored y", "z = z + x", "end")
        self.assertEqual((str(book(p)["z"].terms[0]), book(p).stops().size), ("b + 5", 0))
        self.assertEqual((book(p).start, book(p)["z"](2)), (3, 5))
        b = book(HALF)
        self.assertEqual((b.period, b.start, [str(b.tale(rest)["u"]) for rest in (0, 1)], b(10)["u"]),
                         (2, 2, ["(2 b^2 - 3 b - 2) / 2", "(b^2 - 5) / 2"], 84))

    def test_they_are_books(self):
        self.assertIsInstance(book(program=HALF), Book)
        for work in (iter, list, tuple, sorted):
            self.assertRaises(TypeError, work, book(HALF))

    def test_without_rows(self):
        for one in (Program(), program("times 3", "end"), program("times 0", "times 4", "end", "end")):
            told = book(one)
            self.assertEqual((told.names, told.period, told.start, told.tale(0), told.tale(-7)), ((), 1, 2, {}, {}))
            self.assertEqual((told.stops(), told["x"], told(5)), (Bases.none(), Worth.number(0), {}))

    def test_names(self):
        told = book(program("z = let a", "if less b z", "c = base", "end"))
        self.assertEqual(told.names, ("a", "b", "c", "z"))
        self.assertEqual(list(told.tale(0)), ["a", "b", "c", "z"])
        self.assertEqual(told["zzzz"], Worth.number(0))

    def test_names_that_are_not_in_the_program(self):
        told = book(program("x = base", "y = number 9", "z = x - y"))
        self.assertEqual((str(told["q"].bases), str(told["q"].terms[0])), ("from 9: 0 of 1", "0"))

    def test_no_name(self):
        told = book(HALF)
        for value in NO_NAMES:
            with self.assertRaises(NoName) as caught:
                told[value]
            self.assertIs(caught.exception.name, value)
            self.assertIsInstance(caught.exception, KeyError)

    def test_no_row(self):
        told = book(HALF)
        for at in NO_PLACES + (6, 7):
            for work in (told.stops, told.comes):
                with self.assertRaises(NoRow) as caught:
                    work(at)
                self.assertIs(caught.exception.at, at)
        self.assertEqual(told.stops(at=2), Bases.none())
        self.assertEqual(told.comes(at=5), Bases.rest(2, 0) - told.stops())
        self.assertRaises(NoRow, book(Program()).stops, 0)
        self.assertRaises(NoRow, book(Program()).comes, 0)

    def test_no_base(self):
        for value in NO_BASES:
            self.assertRaises(InvalidBase, book(HALF), value)

    def test_called_with_a_base(self):
        one = program("x = base", "y = number 9", "z = x - y")
        self.assertEqual(book(one)(base=12), {"x": 12, "y": 9, "z": 3})
        self.assertEqual(list(book(HALF)(10 ** 30)), ["u", "x", "y", "z"])
        with self.assertRaises(Stopped) as caught:
            book(one)(8)
        self.assertEqual(caught.exception.at, 2)

    def test_sets_told_whole(self):
        one = program("x = base", "y = number 6", "if divides y x", "z = number 40", "z = x - z", "else", "stop", "end")
        told = book(one)
        self.assertEqual(str(told.stops()), str(~(Bases.rest(6, 0) - Bases.of([6, 12, 18, 24, 30, 36]))))
        self.assertEqual([str(told.stops(at)) for at in (0, 2, 4)], ["none", "none", "6 12 18 24 30 36"])
        self.assertEqual(told.stops(5), ~Bases.rest(6, 0))
        self.assertEqual([told.comes(at) for at in range(6)], [Bases.every()] * 3 + [Bases.rest(6,
            0)] * 2 + [~Bases.rest(6, 0)])

    def test_where(self):
        told = book(program("x = base", "y = number 9", "z = x - y"))
        self.assertEqual(str(told.where(Ask("less", "z", "y"))), "9 10 11 12 13 14 15 16 17")
        self.assertEqual(str(told.where(Not(Ask("less", "z", "y")))), "from 18: 0 of 1")
        self.assertEqual(str(told.where(test=Ask("divides", "z", "q"))), "from 9: 0 of 1")
        self.assertEqual(str(told.where(Ask("divides", "q", "z"))), "9")
        self.assertEqual(str(book(program("stop")).where(Not(Ask("less", "x", "x")))), "none")
        self.assertEqual(book(Program()).where(Ask("same", "x", "y")), Bases.every())

    def test_least_start_is_of_the_ends_alone(self):
        # Base 2 goes another way to the same end.
        told = book(program("x = base", "y = number 2", "if same x y", "z = let y", "else", "z = number 2", "end"))
        self.assertEqual((told.start, told.period, str(told.comes(3))), (2, 1, "2"))
        self.assertEqual(told["z"], Worth.number(2))

    def test_worths_have_their_own_periods_and_starts(self):
        told = book(program("x = base", "y = number 6", "z = x // y", "y = number 2", "u = rest x y", "y = number 50",
                            "y = lesser x y"))
        self.assertEqual((told.period, told.start), (6, 50))
        self.assertEqual([told[name].period for name in "uxyz"], [2, 1, 1, 6])
        self.assertEqual([told[name].start for name in "uxyz"], [2, 2, 50, 2])

    def test_tales(self):
        told = book(program("x = base", "y = number 3", "z = rest x y", "if same z q", "x = q - y", "end"))
        self.assertEqual((told.period, told.start), (3, 2))
        self.assertEqual([told.tale(rest) for rest in (0, 3, -3, 10 ** 30 + 2)], [4] * 4)
        for rest in (1, 4, -2, -(10 ** 30)):
            self.assertEqual({name: str(term) for name, term in told.tale(rest=rest).items()},
                             {"q": "0", "x": "b", "y": "3", "z": str(rest % 3)})
        self.assertIsInstance(told.tale(2)["x"], Term)

    def test_tales_are_new_ones(self):
        told = book(HALF)
        told.tale(0).clear()
        told(5).clear()
        self.assertEqual(len(told.tale(0)), 4)

    def test_nothing_is_changed(self):
        told, ahead = book(HALF), fields(HALF)
        before = fields(told)
        told.stops(), told.comes(0), told.where(ASKS[2]), told.tale(1), told["u"], told == book(HALF), told(7)
        self.assertEqual((fields(told), fields(HALF)), (before, ahead))
        self.assertEqual(book(HALF), told)


class Equality(unittest.TestCase):

    def test_texts_differ(self):
        for one, other, same in (
            ("x = base ; x = x + x", "x = figures 1 0 ; y = let x ; x = x + y", False),
            ("x = base ; x = x + x", "x = figures 1 0 ; x = x + x", True),
            ("x = number 1", "x = figures 1", True), ("x = number 2", "x = figures 2", False),
            ("x = base ; y = number 1", "x = base ; y = root x", True),
            ("x = number 3 ; stop", "x = base ; x = q - x", False), ("x = number 3 ; stop", "x = base ; stop", True),
            ("q = number 2 ; x = x // y", "x = q + y ; x = y - x ; stop", False),
            ("x = base ; x = q - x", "x = base ; x = x // q", True),
        ):
            p, q = program(*one.split(" ; ")), program(*other.split(" ; "))
            self.assertIs(book(p) == book(q), same, (one, other))
            self.assertIs(book(p) != book(q), not same)

    def test_a_number_that_one_has_not(self):
        self.assertTrue(book(program("x = base", "stop", "stop")) == book(program("x = base", "stop")))
        self.assertTrue(book(program("x = base", "times 2", "end")) == book(program("x = base")))

    def test_other_names(self):
        self.assertFalse(book(program("x = base")) == book(program("y = base")))
        self.assertFalse(book(program("x = base", "y = let z")) == book(program("x = base", "y = let y")))
        self.assertTrue(book(program("x = base", "y = let z")) == book(program("x = base", "y = let z", "z = let y")))

    def test_other_stops(self):
        self.assertFalse(book(program("x = base", "stop")) == book(program("stop", "x = base")))
        self.assertFalse(book(program("stop", "x = base")) == book(program("x = base")))

    def test_one_base_alone(self):
        one = program("x = base", "y = number 77", "if same x y", "x = let z", "y = let z", "else", "y = let z", "end")
        self.assertFalse(book(one) == book(program("x = base", "y = let z")))
        self.assertEqual(str(~book(one)["x"].same(Worth.base())), "77")

    def test_equal_to_nothing_of_another_class(self):
        for other in (None, HALF, {}, book(HALF)["u"], "x"):
            self.assertFalse(book(HALF) == other)
            self.assertFalse(other == book(HALF))


class Divided(unittest.TestCase):

    def test_names_beside_worths(self):
        one = program("x = figures 5 0 3", "y = figures 1 2", "z = x // y", "u = rest x y")
        told = book(one)
        x, y = Worth.figures(5, 0, 3), Worth.figures(1, 2)
        self.assertEqual((told["z"], told["u"]), (x // y, x % y))
        self.assertEqual(told["z"] * told["y"] + told["u"], told["x"])


class Runs(unittest.TestCase):

    def test_as_the_other_functions_tell(self):
        for one, test in made(2, 60):
            told = book(one)
            for base in (2, 3, 10, 36, 61, 720, 10 ** 9 + 7):
                self.assertEqual([at for at in range(len(one)) if base in told.comes(at)], list(came_to(one, base)))
                if base in told.stops():
                    with self.assertRaises(Stopped) as caught:
                        run(one, base)
                    self.assertIn(base, told.stops(caught.exception.at))
                else:
                    self.assertEqual({name: told[name](base) for name in one.names}, run(one, base))
                    self.assertEqual(base in told.where(test), holds(one, base, test))


if __name__ == "__main__":
    unittest.main()
