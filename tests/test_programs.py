"""[10], and of [1] to [3] what programs keep."""

import inspect
import unittest

from everybase.errors import FigureError, InvalidRow, NoRow
from everybase.programs import Program
from everybase.rows import Ask, If, Not, Put, Row, Stop, Times
from tests.samples import NO_PLACES, NO_ROW, NO_ROWS, SAME, THINGS, X_LET_Y, fields, program

TEXT = (
    "x = figures 1 2",       # 0
    "if not same x yy",      # 1
    "times 3",               # 2
    "z = x + b",             # 3
    "if mirrored q",         # 4
    "stop",                  # 5
    "else",
    "c = base",              # 6
    "end",
    "end",
    "else",
    "d = number 5",          # 7
    "e = first 2 d",         # 8
    "end",
    "stop",                  # 9
)
# The line that begins each row, by the numbers of the rows.
NUMBERED = (0, 1, 2, 3, 4, 5, 7, 11, 12, 14)


def sample():
    return program(*TEXT)


class Checks(unittest.TestCase):

    def refused_rows(self, make, /, *given, **named):
        with self.assertRaises(InvalidRow, msg=(given, named)) as caught:
            make(*given, **named)
        self.assertEqual(caught.exception.word, "rows")
        self.assertIsInstance(caught.exception, FigureError)

    def no_row(self, at, make, /, *given, **named):
        with self.assertRaises(NoRow, msg=(at, given, named)) as caught:
            make(*given, **named)
        self.assertIs(caught.exception.at, at)
        self.assertIsInstance(caught.exception, IndexError)


class Made(Checks):

    def test_of_a_list_and_a_tuple(self):
        for some in ([X_LET_Y, Stop()], (X_LET_Y, Stop())):
            found = Program(some)
            self.assertEqual(found.rows, (X_LET_Y, Stop()))
            self.assertIs(type(found.rows), tuple)
            self.assertEqual(Program(rows=some).rows, found.rows)

    def test_of_nothing(self):
        for empty in (Program(), Program([]), Program(()), Program(rows=[])):
            self.assertEqual((empty.rows, empty.names, len(empty), str(empty)), ((), (), 0, ""))

    def test_of_what_are_no_rows(self):
        for wrong in NO_ROWS:
            self.refused_rows(Program, wrong)
            self.refused_rows(Program, rows=wrong)
        for wrong in NO_ROW:
            self.refused_rows(Program, [X_LET_Y, wrong])
            self.refused_rows(Program, (wrong, wrong))

    def test_a_list_that_is_changed_afterwards(self):
        some, inner = [X_LET_Y], [Stop()]
        some.append(Times(2, inner))
        found = Program(some)
        before = fields(found)
        some.append(Put("q", "base"))
        some[0] = Stop()
        inner.append(Put("q", "base"))
        self.assertEqual(fields(found), before)
        self.assertEqual((len(found), str(found)), (3, "x = let y\ntimes 2\nstop\nend"))

    def test_a_list_is_not_changed(self):
        some = [X_LET_Y, Stop()]
        found = Program(some)
        str(found + found), found.without(0), found.replaced(1, X_LET_Y)
        self.assertEqual(some, [X_LET_Y, Stop()])


class Names(Checks):

    def test_all_names_ascending(self):
        self.assertEqual(sample().names, ("b", "c", "d", "e", "q", "x", "yy", "z"))
        self.assertIs(type(sample().names), tuple)

    def test_where_names_stand(self):
        for lines, names in (
            (("x = base",), ("x",)), (("x = let x",), ("x",)), (("x = let a",), ("a", "x")),
            (("c = b * a",), ("a", "b", "c")), (("x = first 3 y",), ("x", "y")), (("stop",), ()),
            (("x = y ** 3",), ("x", "y")), (("x = joined z y",), ("x", "y", "z")),
            (("if same x y", "end"), ("x", "y")), (("if not not unlike q", "end"), ("q",)),
            (("times 0", "q = base", "end"), ("q",)), (("if mirrored a", "else", "c = let b", "end"), ("a", "b", "c")),
            (("b = base", "ab = base", "a = base", "aab = base", "z = base"), ("a", "aab", "ab", "b", "z")),
            (("base = base", "sum = sum if", "if = let let"), ("base", "if", "let", "sum")),
        ):
            self.assertEqual(program(*lines).names, names, lines)


class Numbered(Checks):

    def test_len_counts_rows_in_blocks(self):
        self.assertEqual(len(sample()), 10)
        self.assertEqual(len(program("times 2", "end")), 1)
        self.assertEqual(len(program("if same x y", "else", "stop", "end")), 2)
        self.assertEqual(len(program("times 2", "times 2", "times 2", "end", "end", "end")), 3)

    def test_index(self):
        p = sample()
        for at, line in enumerate(NUMBERED):
            self.assertEqual(str(p[at]).split("\n")[0], TEXT[line])
            self.assertIsInstance(p[at], Row)
        self.assertEqual(p[1], p.rows[1])
        self.assertEqual(p[4], If(Ask("mirrored", "q"), [Stop()], [Put("c", "base")]))

    def test_index_of_no_row(self):
        for p in (Program(), program("stop"), sample()):
            for at in NO_PLACES + (len(p), len(p) + 1, -len(p) - 1):
                self.no_row(at, lambda: p[at])
        self.no_row(0, lambda: Program()[0])


class Without(Checks):

    def test_each_row(self):
        for at, line in enumerate(NUMBERED):
            lines = list(TEXT)
            if at == 1:
                lines = lines[:1] + lines[14:]
            elif at == 2:
                lines = lines[:2] + lines[10:]
            elif at == 4:
                lines = lines[:4] + lines[9:]
            else:
                del lines[line]
            if at == 6:
                lines.remove("else")
            self.assertEqual(str(sample().without(at)), "\n".join(lines), at)

    def test_a_block_that_then_has_no_rows_stays(self):
        p = program("if same x y", "times 2", "stop", "end", "end")
        self.assertEqual(str(p.without(2)), "if same x y\ntimes 2\nend\nend")
        self.assertEqual(p.without(2).rows, (If(SAME, [Times(2, [])]),))
        self.assertEqual(str(p.without(2).without(1)), "if same x y\nend")
        self.assertEqual(str(p.without(1)), "if same x y\nend")
        self.assertEqual(str(p.without(0)), "")
        q = program("if same x y", "else", "stop", "end")
        self.assertEqual(str(q.without(1)), "if same x y\nend")

    def test_the_names_are_those_that_are_left(self):
        self.assertEqual(sample().without(1).names, ("x",))
        self.assertEqual(program("x = base", "y = base").without(0).names, ("y",))

    def test_equal_rows_are_told_by_their_numbers(self):
        p = program("x = base", "stop", "x = base", "stop")
        self.assertEqual(str(p.without(2)), "x = base\nstop\nstop")
        self.assertEqual(str(p.without(0)), "stop\nx = base\nstop")

    def test_no_row(self):
        for p in (Program(), program("stop"), sample()):
            for at in NO_PLACES + (len(p),):
                self.no_row(at, p.without, at)
                self.no_row(at, p.without, at=at)

    def test_by_name(self):
        self.assertEqual(sample().without(at=9), sample().without(9))


class Replaced(Checks):

    def test_each_row(self):
        for at in range(10):
            found = sample().replaced(at, Put("new", "base"))
            self.assertEqual(str(found[at]), "new = base")
            self.assertIn("new", found.names)
            other = sample().without(at)
            self.assertEqual(found.without(at), other, at)
            self.assertEqual(len(found), len(other) + 1)

    def test_the_text(self):
        p = program("x = base", "if same x y", "stop", "else", "stop", "x = base", "end", "stop")
        self.assertEqual(str(p.replaced(0, Stop())),
                         "stop\nif same x y\nstop\nelse\nstop\nx = base\nend\nstop")
        self.assertEqual(str(p.replaced(3, X_LET_Y)),
                         "x = base\nif same x y\nstop\nelse\nx = let y\nx = base\nend\nstop")
        self.assertEqual(str(p.replaced(1, X_LET_Y)), "x = base\nx = let y\nstop")
        self.assertEqual(str(p.replaced(5, X_LET_Y)),
                         "x = base\nif same x y\nstop\nelse\nstop\nx = base\nend\nx = let y")

    def test_by_a_block(self):
        p = program("x = base", "times 2", "stop", "end")
        block = If(Not(SAME), [Times(1, [X_LET_Y])], [Stop()])
        found = p.replaced(2, block)
        self.assertEqual(str(found), "x = base\ntimes 2\nif not same x y\ntimes 1\nx = let y\nend\nelse\nstop\nend\nend")
        self.assertEqual((len(found), found[2], found.names), (6, block, ("x", "y")))
        self.assertEqual(str(found.replaced(2, Times(0, ()))), "x = base\ntimes 2\ntimes 0\nend\nend")

    def test_no_row_with_this_number(self):
        for p in (Program(), program("stop"), sample()):
            for at in NO_PLACES + (len(p),):
                self.no_row(at, p.replaced, at, Stop())
                self.no_row(at, p.replaced, at=at, row=X_LET_Y)

    def test_what_is_no_row(self):
        for wrong in NO_ROW:
            for at in (0, 1, 4, 9):
                self.refused_rows(sample().replaced, at, wrong)
            self.refused_rows(sample().replaced, row=wrong, at=3)

    def test_the_number_is_looked_at_first(self):
        for wrong in NO_ROW:
            for at in NO_PLACES + (10,):
                self.no_row(at, sample().replaced, at, wrong)

    def test_by_name(self):
        self.assertEqual(sample().replaced(row=Stop(), at=3), sample().replaced(3, Stop()))


class Added(Checks):

    def test_rows_of_both(self):
        p, q = program("x = base", "times 2", "stop", "end"), program("y = base")
        self.assertEqual(str(p + q), "x = base\ntimes 2\nstop\nend\ny = base")
        self.assertEqual(str(q + p), "y = base\nx = base\ntimes 2\nstop\nend")
        self.assertEqual((p + q).rows, p.rows + q.rows)
        self.assertEqual((p + q).names, ("x", "y"))
        self.assertEqual(len(p + q), 4)
        self.assertEqual(str(p + p), "x = base\ntimes 2\nstop\nend\nx = base\ntimes 2\nstop\nend")
        self.assertIs(type(p + q), Program)

    def test_nothing_added(self):
        for p in (Program(), sample()):
            self.assertEqual(p + Program(), p)
            self.assertEqual(Program() + p, p)

    def test_in_place_gives_a_new_one(self):
        p = kept = program("x = base")
        q = program("stop")
        p += q
        self.assertIsNot(p, kept)
        self.assertEqual((str(p), str(kept), str(q)), ("x = base\nstop", "x = base", "stop"))

    def test_other_things_are_not_added(self):
        for other in (1, "stop", None, [Stop()], (Stop(),), Stop()):
            with self.assertRaises(TypeError):
                sample() + other
            with self.assertRaises(TypeError):
                other + sample()


class Equal(Checks):

    def made(self):
        """Programs no two of which are equal."""
        return [program(*lines) for lines in (
            (), ("stop",), ("stop", "stop"), ("x = base",), ("x = base", "stop"), ("stop", "x = base"),
            ("x = number 1",), ("x = figures 1",), ("times 1", "stop", "end"), ("times 2", "stop", "end"),
            ("times 1", "end"), ("times 1", "end", "stop"), ("if same x y", "stop", "end"),
            ("if same y x", "stop", "end"), ("if not same x y", "stop", "end"), ("if same x y", "else", "stop", "end"),
            ("if same x y", "stop", "else", "stop", "end"), TEXT,
        )]

    def test_equal_if_their_rows_are(self):
        for at, one in enumerate(self.made()):
            for place, other in enumerate(self.made()):
                self.assertIs(one == other, at == place, (str(one), str(other)))
                self.assertIs(one != other, at != place)

    def test_however_they_are_made(self):
        self.assertEqual(Program([Put("x", "base"), Stop()]), program("x = base", "stop"))
        self.assertEqual(program("x = base") + program("stop"), program("x = base", "stop"))
        self.assertEqual(program("if same x y", "else", "end"), program("if same x y", "end"))
        self.assertEqual(Program(sample().rows), sample())

    def test_unequal_to_everything_else(self):
        class Eager:
            def __eq__(self, other):
                return True

        for one in self.made():
            for other in THINGS + (None, 0, "", str(one), one.rows, list(one.rows), Program, Eager()):
                self.assertIs(one == other, False)
                self.assertIs(one != other, True)
            for other in (None, 0, "", str(one), one.rows, Stop()):
                self.assertIs(other == one, False)


class Shape(Checks):

    def test_text_and_back(self):
        for p in Equal().made():
            self.assertEqual(Program.read(str(p)), p)
            self.assertEqual(str(Program.read(str(p))), str(p))
        self.assertEqual(str(sample()), "\n".join(TEXT))

    def test_a_program_is_not_iterable(self):
        for p in (Program(), sample()):
            for work in (iter, list, tuple, sorted, enumerate):
                with self.assertRaises(TypeError):
                    work(p)
            with self.assertRaises(TypeError):
                Stop() in p

    def test_nothing_changes_it(self):
        p = sample()
        before, row = fields(p), Put("new", "base")
        p.without(3), p.replaced(4, row), p + p, str(p), len(p), p[3], p == p
        for at in (-1, 10):
            for work in (p.without, lambda at: p.replaced(at, row), lambda at: p[at]):
                self.no_row(at, work, at)
        self.refused_rows(p.replaced, 2, None)
        self.assertEqual(fields(p), before)

    def test_results_do_not_hang_together(self):
        p = sample()
        one = p.replaced(0, Put("a", "base"))
        other = p.replaced(0, Put("b", "base"))
        self.assertEqual((str(one[0]), str(other[0]), str(p[0])), ("a = base", "b = base", TEXT[0]))

    def test_the_methods_stand_in_the_class(self):
        for name in ("__init__", "read", "without", "replaced", "__call__", "__len__", "__getitem__", "__add__",
                     "__eq__", "__str__"):
            self.assertIn(name, vars(Program))
        self.assertEqual(Program.__module__, "everybase.programs")

    def test_parameters(self):
        for work, told in ((Program, "(rows=())"), (Program.read, "(text)"), (Program.without, "(self, at)"),
                           (Program.replaced, "(self, at, row)"), (Program.__call__, "(self, base)")):
            self.assertEqual(str(inspect.signature(work)), told)

    def test_rows_beyond_the_limits(self):
        row = Stop()
        for _ in range(30):
            row = Times(1, [row])
        p = Program([row] * 5)
        self.assertEqual(len(p), 155)
        self.assertEqual(str(p[30]), "stop")
        self.assertEqual(str(p[31]).split("\n")[0], "times 1")
        self.assertEqual(len(p.without(154)), 154)
        self.assertEqual(Program.read(str(p)), p)


if __name__ == "__main__":
    unittest.main()
