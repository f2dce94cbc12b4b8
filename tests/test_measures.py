"""[14] to [16]: measures, and of [1] to [3] what they keep."""

import inspect
import unittest

from everybase.errors import Stopped
from everybase.measures import measures
from everybase.programs import Program
from everybase.rows import Put
from everybase.runs import came_to, run
from tests.reference import INFIX, Maker, ends
from tests.samples import fields, program

MOST = 10 ** 6


class Checks(unittest.TestCase):

    def measured(self, lines, length, size, period, test=None):
        found = measures(program(*lines), test=test)
        self.assertEqual(found, (length, size, period), lines)
        self.assertIs(type(found), tuple)

    def mark(self, lines, name):
        """The length and the size of a name at the end, seen by rows that make them greater than all others."""
        lines = list(lines)
        joined = ["times 4", f"{name} = joined {name} {name}", "end"] * 2
        length, size, _ = measures(program(*lines, *joined))
        self.assertTrue(length % 256 == size % 256 == 0, (lines, name))
        return length // 256, size // 256

    def steady(self, lines, name):
        """Whether a name is steady at the end: a quotient by it tells, if its size is not 1 or 2."""
        name_length, size = self.mark(lines, name)
        before = measures(program(*lines))[2]
        after = measures(program(*lines, "own = base", f"own = own // {name}"))[2]
        steady = size if name_length == 1 else size ** 2
        shared = {1: 1, 2: 2, 3: 6, 4: 12, 5: 60, 6: 60}.get(size, 1000) if name_length == 1 else 1000
        self.assertNotEqual(steady, shared)
        self.assertIn(after, (before * steady, before * shared), (lines, name))
        return after == before * steady

    def straight(self, lines, name):
        """Whether a steady name of length 2 is straight at the end: the common divisor with the base tells."""
        length, size = self.mark(lines, name)
        before = measures(program(*lines))[2]
        after = measures(program(*lines, "own = base", f"own = common own {name}"))[2]
        self.assertTrue(length == 2 and size != 500 and self.steady(lines, name))
        self.assertIn(after, (before * 2 * size, before * 1000))
        return after == before * 2 * size


# x has the length 3 and the size 9, y the length 2 and the size 7, u the length 1 and the size 5.
HEAD = ("x = figures 2 3 4", "y = figures 5 2", "u = number 5")


class Marks(Checks):
    """The length and the size of the result, row by row of the table."""

    def result(self, line, length, size, *more):
        self.assertEqual(self.mark(HEAD + more + (line,), "z"), (length, size), (line, more))

    def test_the_head(self):
        self.assertEqual([self.mark(HEAD, name) for name in ("x", "y", "u")], [(3, 9), (2, 7), (1, 5)])

    def test_at_first(self):
        self.assertEqual(self.mark(["if same z y", "end"], "z"), (1, 1))
        self.measured([], 1, 1, 1)
        self.measured(["stop"], 1, 1, 1)
        self.measured(["z = let x"], 1, 1, 1)
        self.measured(["z = x + y"], 1, 2, 1)

    def test_without_names(self):
        self.measured([], 1, 1, 1)
        self.measured(["times 4", "times 4", "stop", "end", "end"], 1, 1, 1)

    def test_figures(self):
        self.result("z = figures 0", 1, 1)
        self.result("z = figures 0 0 0", 3, 1)
        self.result("z = figures 1", 1, 1)
        self.result("z = figures 35 0 1 0 0 2", 6, 38)
        self.result("z = figures 1 1", 2, 2)

    def test_number_base_let(self):
        self.result("z = number 0", 1, 1)
        self.result("z = number 1", 1, 1)
        self.result("z = number 2", 1, 2)
        self.result("z = number 99", 1, 99)
        self.result("z = base", 2, 1)
        self.result("z = let x", 3, 9)
        self.result("z = let u", 1, 5)

    def test_sums_differences_lesser(self):
        for sign in "+-":
            self.result(f"z = x {sign} y", 3, 16)
            self.result(f"z = y {sign} x", 3, 16)
            self.result(f"z = u {sign} u", 1, 10)
        self.result("z = lesser x y", 3, 9)
        self.result("z = lesser y x", 3, 9)
        self.result("z = lesser u y", 2, 7)
        self.result("z = lesser u w", 3, 5, "w = figures 0 0 3")

    def test_products_and_powers(self):
        self.result("z = x * y", 4, 63)
        self.result("z = u * u", 1, 25)
        self.result("z = u * y", 2, 35)
        self.result("z = x ** 0", 1, 1)
        self.result("z = x ** 1", 3, 9)
        self.result("z = x ** 2", 5, 81)
        self.result("z = x ** 3", 7, 729)
        self.result("z = y ** 3", 4, 125, "y = figures 3 2")
        self.result("z = u ** 3", 1, 125)

    def test_quotients(self):
        self.result("z = x // u", 3, 10)
        self.result("z = u // u", 1, 6)
        # y is steady: f is 7 ** 3 and 7 ** 2 and 7.
        self.result("z = w // y", 3, 344, "w = figures 0 0 1")
        self.result("z = y // w", 2, 29, "w = figures 2 0")
        self.result("z = u // w", 1, 11, "w = figures 2 0")

    def test_quotients_by_an_unsteady_name(self):
        more = ("w = number 2", "b = base", "b = common b w")
        self.assertEqual(self.mark(HEAD + more, "b"), (2, 2))
        # Its length is 2: f is 1000, not 2 ** n.
        lines = more + ("z = a // b",)
        self.assertEqual(measures(program(*lines))[1:], (1001, 2 * 1000))
        self.assertEqual(measures(program("w = number 2", "b = base", "b = let b", "z = a // b"))[1:], (2, 1))

    def test_rests(self):
        self.result("z = rest x u", 1, 5)
        self.result("z = rest u u", 1, 5)
        self.assertEqual(self.mark(("x = figures 1 1", "y = base", "z = rest x y"), "z"), (2, 1 * (2 * 1 + 1) + 2))
        self.assertEqual(self.mark(("x = figures 1 1", "y = figures 3 0", "z = rest x y"), "z"),
                         (2, 3 * (2 * 9 + 1) + 2))
        self.assertEqual(self.mark(("x = number 4", "y = figures 3 0 0", "z = rest x y"), "z"),
                         (3, 3 * (4 * 3 + 1) + 4))
        more = ("w = number 2", "b = base", "b = common b w", "a = number 3", "z = rest a b")
        self.assertEqual(measures(program(*more))[1:], (2 * (3 * 1000 + 1) + 3, 2 * 1000))

    def test_common(self):
        self.result("z = common x y", 3, 9)
        self.result("z = common y x", 3, 9)
        self.result("z = common u u", 1, 5)
        self.result("z = common u w", 4, 5, "w = figures 0 0 0 4")

    def test_figures_in_another_order_and_parts(self):
        for deed in ("turned", "least", "greatest", "first 2", "last 8", "first 0"):
            self.result(f"z = {deed} x", 3, 3 * 11)
            self.result(f"z = {deed} u", 1, 7)

    def test_sum_many_root_figure(self):
        self.result("z = sum x", 2, 33)
        self.result("z = sum u", 2, 7)
        self.result("z = many x", 1, 3)
        self.result("z = many u", 1, 1)
        self.result("z = root x", 2, 13)
        self.result("z = root u", 2, 9)
        self.result("z = figure 0 x", 2, 11)
        self.result("z = figure 8 u", 2, 7)

    def test_joined(self):
        self.result("z = joined x y", 5, 16)
        self.result("z = joined u u", 2, 10)
        self.result("z = joined u x", 4, 14)

    def test_a_name_is_told_anew(self):
        self.assertEqual(self.mark(HEAD + ("x = number 2",), "x"), (1, 2))
        self.assertEqual(self.mark(HEAD + ("x = x * x", "x = many x"), "x"), (1, 5))
        self.assertEqual(self.mark(HEAD + ("x = x + x",), "x"), (3, 18))


class Periods(Checks):
    """What the period is multiplied by."""

    def period(self, expected, *lines):
        self.assertEqual(measures(program(*lines))[2], expected, lines)

    def test_deeds_that_leave_it(self):
        for line in ("z = figures 7 9", "z = number 9", "z = base", "z = let x", "z = x + y", "z = x - y", "z = x * y",
                     "z = x ** 3", "z = turned x", "z = least x", "z = greatest x", "z = first 2 x", "z = last 2 x",
                     "z = sum x", "z = many x", "z = root x", "z = figure 1 x", "z = joined x y", "z = lesser x y",
                     "stop"):
            self.period(1, *HEAD, line)
            self.period(5, *HEAD, "w = base", "w = w // u", line)

    def test_quotients_and_rests(self):
        for deed in ("x // u", "rest x u"):
            self.period(5, *HEAD, f"z = {deed}")
            self.period(25, *HEAD, f"z = {deed}", f"z = {deed}")
        for deed in ("a // b", "rest a b"):
            self.period(7 ** 3, "a = figures 1 1 1", "b = figures 7 0", f"z = {deed}")
            self.period(7, "a = number 30", "b = figures 7 0", f"z = {deed}")
            self.period(7, "a = number 30", "b = figures 7 0 0", f"z = {deed}")
            self.period(2 ** 4, "a = figures 1 0 0 0", "b = figures 0 2 0", f"z = {deed}")
            self.period(1, "a = figures 7 0 0 0", "b = base", f"z = {deed}")

    def test_by_an_unsteady_name_of_length_1(self):
        # `number k` by `number 1` stays (1, k + 1) with the period 1; it is not steady.
        for size, expected in ((2, 2), (3, 6), (4, 12), (5, 60), (6, 60), (7, 1000), (8, 1000), (90, 1000)):
            head = ["o = number 1", f"u = number {size - 1}", "u = u // o"]
            self.period(1, *head)
            for deed in ("x // u", "rest x u"):
                self.period(expected, *head, "x = figures 1 2 3", f"z = {deed}")
        self.period(1, "o = number 1", "u = base", "u = rest u o", "z = x // u")

    def test_by_an_unsteady_name_of_another_length(self):
        head = ["o = number 1", "u = figures 1 2", "u = u // o"]
        self.period(1, *head)
        for deed in ("x // u", "rest x u"):
            self.period(1000, *head, f"z = {deed}")
            self.period(1000, *head, "x = figures 1 2 3", f"z = {deed}")

    def test_it_is_the_right_name_that_counts(self):
        head = ["o = number 1", "u = number 6", "u = u // o", "v = number 7"]
        self.period(7, *head, "z = u // v")
        self.period(1000, *head, "z = v // u")
        self.period(7, *head, "z = rest u v")
        self.period(1000, *head, "z = rest v u")

    def test_products_of_unsteady_names(self):
        head = ["t = number 3", "a = base", "a = a // t", "s = base"]
        self.period(3, *head)
        self.period(9, *head, "z = a * a")
        self.period(3, *head, "z = a * s")
        self.period(3, *head, "z = s * a")
        self.period(3, *head, "z = s * s")
        self.period(81, *head, "z = a * a", "z = a * z")
        self.period(3 ** 8, *head, "times 3", "a = a * a", "end")
        self.period(1, "o = number 1", "a = base", "a = a // o", "z = a * a")

    def test_powers_of_unsteady_names(self):
        head = ["t = number 3", "a = base", "a = a // t", "s = base"]
        for k, expected in ((0, 3), (1, 3), (2, 9), (3, 27)):
            self.period(expected, *head, f"z = a ** {k}")
            self.period(3, *head, f"z = s ** {k}")
        self.period(3 ** 6, *head, "z = a ** 2", "z = a ** 3")

    def test_common_divisors(self):
        head = ["u = number 4", "v = number 9", "x = figures 0 0 7", "y = figures 3 2", "s = base"]
        self.period(1, *head, "z = common u v")
        for deed in ("common u x", "common x u", "common u y", "common y u"):
            self.period(4, *head, f"z = {deed}")
        self.period(9, *head, "z = common v s")
        self.period(2 * 5 * 1, *head, "z = common y s")
        self.period(2 * 5 * 5, *head, "z = common y y")
        self.period(2, *head, "z = common s s")
        self.period(1000, *head, "z = common x y")
        self.period(1000, *head, "z = common y x")
        self.period(1000, *head, "z = common x x")

    def test_common_divisors_of_unsteady_names(self):
        for size, expected in ((2, 2), (3, 6), (4, 12), (5, 60), (6, 60), (7, 1000), (50, 1000)):
            head = ["o = number 1", f"u = number {size - 1}", "u = u // o", "s = base", "x = figures 1 2 3"]
            for deed in ("common u s", "common s u", "common u x", "common x u"):
                self.period(expected, *head, f"z = {deed}")
            self.period(1, *head, "z = common u o")
            self.period(1, *head, "z = common u u")
        head = ["o = number 1", "a = base", "a = a // o", "s = base", "n = number 3"]
        self.period(1000, *head, "z = common a s")
        self.period(1000, *head, "z = common s a")
        self.period(3, *head, "z = common a n")
        self.period(3, *head, "z = common n a")

    def test_common_divisors_of_names_that_are_not_straight(self):
        head = ["a = figures 2 1", "a = turned a", "s = base"]
        self.period(2 * 3, "a = figures 2 1", "s = base", "z = common a s")
        self.period(1000, *head, "z = common a s")
        self.period(1000, *head, "z = common s a")
        self.period(4, *head, "n = number 4", "z = common n a")

    def test_a_size_of_one(self):
        self.period(1, "x = base", "z = x // u", "z = rest x u", "z = common x u")


class Steady(Checks):

    def test_at_first_and_behind_steady_deeds(self):
        head = ("x = figures 2 3", "y = number 7")
        for line in ("z = figures 3 4", "z = number 9", "z = let x", "z = x + y", "z = x - y", "z = x * y",
                     "z = x ** 2", "z = turned x", "z = least x", "z = greatest x", "z = first 2 x", "z = last 2 x",
                     "z = sum x", "z = root x", "z = figure 1 x", "z = joined x y", "z = lesser x y"):
            self.assertIs(self.steady(head + (line,), "z"), True, line)
        self.assertIs(self.steady(("x = figures 0 0 1", "z = many x"), "z"), True)

    def test_deeds_that_make_unsteady(self):
        head = ("x = figures 2 3", "y = number 7")
        for line in ("z = x // y", "z = rest x y", "z = common x y"):
            self.assertIs(self.steady(head + (line,), "z"), False, line)

    def test_deeds_with_an_unsteady_name(self):
        head = ("o = number 1", "x = figures 2 3", "x = x // o", "y = number 7")
        for line in ("z = let x", "z = x + y", "z = y + x", "z = x - y", "z = y - x", "z = x * y", "z = y * x",
                     "z = x ** 2", "z = turned x", "z = least x", "z = greatest x", "z = first 2 x", "z = last 2 x",
                     "z = sum x", "z = root x", "z = figure 1 x", "z = joined x y", "z = joined y x",
                     "z = lesser x y", "z = lesser y x", "z = x ** 1"):
            self.assertIs(self.steady(head + (line,), "z"), False, line)
            self.assertIs(self.steady(head + (line,), "y"), True, line)
        many = ("o = number 1", "x = figures 0 0 1", "x = x // o", "z = many x")
        self.assertIs(self.steady(many, "z"), False)

    def test_a_name_that_is_given_something_steady_again(self):
        head = ("o = number 1", "x = figures 2 3", "x = x // o")
        self.assertIs(self.steady(head, "x"), False)
        self.assertIs(self.steady(head + ("x = number 7",), "x"), True)


class Straight(Checks):

    def test_deeds_that_leave_straight(self):
        head = ("x = figures 2 3", "y = number 7")
        for line in ("z = figures 3 4", "z = let x", "z = x + y", "z = x - y", "z = x * y", "z = sum x", "z = root x",
                     "z = figure 1 x", "z = joined y y", "z = lesser x y", "z = x ** 1", "z = sum y"):
            self.assertIs(self.straight(head + (line,), "z"), True, line)

    def test_deeds_that_bend(self):
        for deed in ("turned", "least", "greatest", "first 1", "last 1"):
            self.assertIs(self.straight(("x = figures 2 3", f"z = {deed} x"), "z"), False, deed)

    def test_deeds_with_a_name_that_is_not_straight(self):
        head = ("x = figures 2 3", "x = turned x", "y = number 7", "b = turned y")
        for line in ("z = let x", "z = x + y", "z = y + x", "z = x - y", "z = x * y", "z = y * x", "z = x ** 1",
                     "z = sum x", "z = root x", "z = figure 1 x", "z = lesser x y", "z = lesser y x", "z = joined y b",
                     "z = joined b y", "z = root b", "z = turned x"):
            self.assertIs(self.straight(head + (line,), "z"), False, line)
        self.assertIs(self.straight(head + ("x = figures 2 3",), "x"), True)


class Ifs(Checks):

    def test_the_greater_of_both_sides(self):
        lines = ("x = figures 1 1 1", "if same x x", "x = number 9", "else", "x = figures 1 1", "end")
        self.assertEqual(self.mark(lines, "x"), (2, 9))
        lines = ("x = figures 1 1 1", "if same x x", "x = number 9", "end")
        self.assertEqual(self.mark(lines, "x"), (3, 9))
        lines = ("x = figures 1 1 1", "if same x x", "else", "x = number 2", "end")
        self.assertEqual(self.mark(lines, "x"), (3, 3))
        lines = ("x = figures 1 1 1", "if same x x", "else", "end")
        self.assertEqual(self.mark(lines, "x"), (3, 3))

    def test_others_begin_with_what_was_ahead(self):
        lines = ("x = figures 1 1", "if same x x", "x = x * x", "y = number 9", "else", "z = x * y", "end")
        self.assertEqual([self.mark(lines, name) for name in "xyz"], [(3, 4), (1, 9), (2, 2)])

    def test_the_greatest_at_any_time(self):
        self.measured(["if same x x", "x = figures 9 9 9", "x = number 1", "end"], 3, 27, 1)
        self.measured(["if same x x", "else", "x = figures 9 9 9", "x = number 1", "end"], 3, 27, 1)
        self.measured(["x = figures 0 0 0 0", "x = number 50", "x = base"], 4, 50, 1)

    def test_the_period_goes_on(self):
        lines = ["t = number 3", "u = number 5", "x = base", "if same x x", "x = x // t", "else", "y = x // u", "end"]
        self.assertEqual(measures(program(*lines))[2], 15)
        # In the others x is steady still, as it was ahead.
        lines = ["t = number 3", "x = base", "if same x x", "x = x // t", "z = x * x", "else", "z = x * x", "end"]
        self.assertEqual(measures(program(*lines))[2], 9)
        # There it is 27 ahead of the product.
        lines[5:] = ["else", "x = x // t", "z = x * x", "end"]
        self.assertEqual(measures(program(*lines))[2], 27 * 27)

    def test_steady_within_and_not_behind(self):
        lines = ["x = number 7", "y = base", "if same x x", "x = number 7", "z = y // x", "end"]
        self.assertEqual(measures(program(*lines))[2], 7)
        self.assertEqual(measures(program(*lines, "z = y // x"))[2], 7 * 1000)
        self.assertEqual(measures(program(*lines, "w = number 3", "z = y // w"))[2], 21)

    def test_names_that_are_given_something_in_the_block(self):
        for inner in (["x = number 7"], ["else", "x = number 7"], ["x = let x"], ["times 0", "x = number 7", "end"],
                      ["times 2", "if same y y", "else", "x = number 7", "end", "end"], ["stop", "x = number 7"],
                      ["else", "times 0", "if same y y", "x = base", "end", "end"]):
            head = ["x = number 7", "y = number 7", "if less x x"] + inner + ["end"]
            self.assertIs(self.steady(head, "x"), False, inner)
            self.assertIs(self.steady(head, "y"), True, inner)

    def test_a_name_that_was_not_steady_stays_so(self):
        head = ["o = number 1", "x = number 6", "x = x // o", "if same x o", "y = number 7", "end"]
        self.assertIs(self.steady(head, "x"), False)
        self.assertIs(self.steady(head, "y"), False)

    def test_straight_within(self):
        head = ["x = figures 1 2", "s = base", "if same s s"]
        for inner, expected in (
            ([], 6), (["x = turned x"], 1000), (["else"], 6), (["else", "x = turned x"], 1000),
            # In the others x is straight still, as it was ahead.
            (["x = turned x", "else"], 6), (["x = turned x", "x = figures 1 2"], 6),
            (["times 0", "x = turned x", "end"], 6), (["times 1", "x = turned x", "end"], 1000),
            (["if same x x", "x = turned x", "else"], 6),
        ):
            blocks = sum(one.startswith(("if", "times")) for one in head + inner) - inner.count("end")
            last = ["end"] * blocks
            self.assertEqual(measures(program(*head, *inner, "z = common x s", *last))[2], expected, inner)
            # Behind the block x is not steady if it is given something there.
            behind = 1000 if "x = turned x" in inner else 6
            self.assertEqual(measures(program(*head, *inner, *last, "z = common x s"))[2], behind, inner)

    def test_tests(self):
        head = ["x = figures 2 3", "y = number 7", "w = figures 1 1 1"]
        for test, expected in (("same x y", 1), ("less x y", 1), ("mirrored x", 1), ("unlike x", 1),
                               ("divides y x", 7), ("divides y y", 7), ("divides x y", 5), ("divides x w", 125),
                               ("divides q x", 1), ("divides x q", 5)):
            for nots in ("", "not ", "not not not "):
                self.assertEqual(measures(program(*head, f"if {nots}{test}", "end"))[2], expected, test)
        unsteady = ["o = number 1", "x = number 3", "x = x // o", "z = figures 2 2", "z = z // o", "y = base"]
        self.assertEqual(measures(program(*unsteady, "if divides x y", "end"))[2], 12)
        self.assertEqual(measures(program(*unsteady, "if divides z y", "end"))[2], 1000)
        self.assertEqual(measures(program(*unsteady, "if divides y x", "end"))[2], 1)

    def test_the_test_is_looked_at_ahead_of_the_rows(self):
        lines = ["x = number 7", "if divides x y", "x = number 5", "y = figures 1 1 1 1", "end"]
        self.assertEqual(measures(program(*lines))[2], 7)

    def test_three_deep(self):
        lines = ["x = number 3", "s = base", "if same x s", "if less x s", "times 2", "y = s // x", "end", "else",
                 "z = s // x", "end", "x = number 2", "else", "w = rest s x", "end", "v = s // x"]
        # Twice, once and once 3; then x, of size 3, is not steady.
        self.assertEqual(measures(program(*lines))[2], 3 ** 4 * 6)


class Counted(Checks):

    def test_gone_through_so_many_times(self):
        for count in range(5):
            lines = ["x = base", "t = number 2", f"times {count}", "x = x * x", "y = x // t", "end"]
            length = 2 ** count + 1 if count else 2
            self.assertEqual(measures(program(*lines))[::2], (length, 2 ** count))
            self.assertEqual(measures(program("x = number 2", f"times {count}", "x = x + x", "end"))[1], 2 ** (count + 1))

    def test_none_at_all(self):
        self.measured(["times 0", "x = figures 9 9 9", "y = x // x", "end"], 1, 1, 1)
        self.assertIs(self.steady(["x = number 7", "times 0", "x = x // x", "end"], "x"), True)

    def test_once_more_than_steady(self):
        lines = ["t = number 3", "x = base", "times 2", "z = x * x", "x = x // t", "end"]
        # First x is steady; in the second round it is not, and the period is 3.
        self.assertEqual(measures(program(*lines))[2], 3 * 3 * 3)

    def test_within_one_another(self):
        self.measured(["x = number 1", "times 2", "times 3", "times 4", "x = x + x", "end", "end", "end"], 1, MOST, 1)
        self.measured(["x = number 1", "times 2", "times 2", "times 3", "x = x + x", "end", "end", "end"], 1, 4096, 1)


class Most(Checks):

    def test_sizes(self):
        self.measured(["x = number 99", "x = x ** 3"], 1, 99 ** 3, 1)
        self.measured(["x = number 99", "x = x ** 3", "y = x + x"], 1, MOST, 1)
        self.measured(["x = number 100", "x = x ** 3"], 1, MOST, 1)
        self.measured(["x = number 101", "x = x ** 3"], 1, MOST, 1)
        self.measured(["x = number 999999", "x = x // u"], 1, MOST, 1)
        self.measured(["x = number 1000000"], 1, MOST, 1)
        self.measured(["x = number 999999999"], 1, MOST, 1)
        self.measured(["x = figures 999999 1"], 2, MOST, 1)
        self.measured(["x = figures 999999 2"], 2, MOST, 1)

    def test_lengths(self):
        self.measured(["times 4", "times 4", "x = joined x x", "end", "end", "times 3", "x = joined x x", "end"],
                      2 ** 19, 2 ** 19, 1)
        self.measured(["times 4", "times 4", "x = joined x x", "end", "end", "times 4", "x = joined x x", "end"],
                      MOST, MOST, 1)

    def test_periods(self):
        self.assertEqual(measures(program("t = number 99", "times 3", "z = base", "z = z // t", "end"))[2], 99 ** 3)
        self.assertEqual(measures(program("t = number 99", "times 4", "z = base", "z = z // t", "end"))[2], MOST)
        self.assertEqual(measures(program("t = number 1000", "times 2", "z = z // t", "end"))[2], MOST)
        self.assertEqual(measures(program("t = number 1000", "times 2", "z = z // t", "end", "t = number 1",
                                          "z = z // t"))[2], MOST)

    def test_it_counts_as_this_at_each_row(self):
        # The size of x counts as 10 ** 6, so the quotient by it multiplies by no more; a later small one by little.
        lines = ["x = number 999999999", "z = y // x"]
        self.assertEqual(measures(program(*lines)), (1, MOST, MOST))
        # A name given something small is small again.
        self.measured(["x = number 999999999", "x = number 3", "z = y // x"], 1, MOST, 3)
        # The period ahead counts as 10 ** 6, too.
        lines = ["t = number 1001", "a = base", "a = a // t", "a = a // t", "z = a * a", "z = a ** 3"]
        self.assertEqual(measures(program(*lines))[2], MOST)

    def test_factors(self):
        # t ** n with n in the hundred thousands is not reckoned out.
        lines = ["times 4", "times 4", "x = joined x x", "end", "end", "y = figures 9 9", "z = x // y"]
        self.assertEqual(measures(program(*lines)), (2 ** 16, MOST, MOST))
        lines[-1] = "z = rest x y"
        self.assertEqual(measures(program(*lines)), (2 ** 16, MOST, MOST))
        lines = ["x = figures 999 0", "y = figures 999 1", "z = common x y"]
        self.assertEqual(measures(program(*lines))[2], MOST)
        self.assertEqual(measures(Program([Put("x", "number", 2), Put("x", "**", "x", 10 ** 9)])), (1, MOST, 1))
        self.assertEqual(measures(Program([Put("x", "**", "x", 10 ** 9)])), (1, 1, 1))
        self.assertEqual(measures(Program([Put("x", "base"), Put("x", "**", "x", 10 ** 9)])), (MOST, 1, 1))


class TestBeside(Checks):

    def test_behind_all_rows(self):
        lines = ["x = number 3", "y = figures 1 1 1", "x = number 7"]
        self.measured(lines, 3, 7, 7, self.ask("divides x y"))
        self.measured(lines, 3, 7, 3, self.ask("divides y x"))
        self.measured(["z = figures 0 7", "y = figures 1 1 1"], 3, 7, 343, self.ask("divides z y"))
        self.measured(["t = number 3", "z = base", "z = z // t"], 2, 3, 9, self.ask("not divides t z"))

    def ask(self, text="same x y"):
        return program(f"if {text}", "end")[0].test

    def test_others_do_nothing(self):
        lines = ["x = number 3", "y = figures 1 1 1", "z = y // x"]
        for text in ("same x y", "less x y", "mirrored y", "unlike y", "not not same z z"):
            self.measured(lines, 3, 4, 3, self.ask(text))
        self.assertEqual(measures(program(*lines), test=None), measures(program(*lines)))

    def test_names_that_are_not_in_the_program(self):
        self.measured([], 1, 1, 1, self.ask("divides x y"))
        self.measured(["x = number 7"], 1, 7, 7, self.ask("divides x q"))
        self.measured(["x = number 7"], 1, 7, 1, self.ask("divides q x"))

    def test_an_unsteady_name(self):
        lines = ["o = number 1", "x = number 3", "x = x // o"]
        self.measured(lines, 1, 4, 12, self.ask("divides x y"))
        self.measured(lines, 1, 4, 1, self.ask("divides y x"))

    def test_it_counts_as_most(self):
        self.measured(["x = number 999", "z = y // x", "z = y // x"], 1, 999, 998001)
        self.measured(["x = number 999", "z = y // x", "z = y // x"], 1, 999, MOST, self.ask("divides x y"))

    def test_by_name_only(self):
        self.assertEqual(str(inspect.signature(measures)), "(program, *, test=None)")
        self.assertEqual(measures.__module__, "everybase.measures")
        with self.assertRaises(TypeError):
            measures(Program(), None)
        self.assertEqual(measures(test=self.ask("divides x x"), program=program("x = number 7")), (1, 7, 7))

    def test_nothing_is_changed(self):
        p, test = program(*HEAD, "times 2", "if divides u x", "x = x // u", "end", "end"), self.ask("not same x y")
        before = fields(p), fields(test)
        one = measures(p, test=test)
        measures(p)
        self.assertEqual(measures(p, test=test), one)
        self.assertEqual((fields(p), fields(test)), before)


def told_measures(text):
    """The measures in another way: the table of the document, line by line of the text."""
    lines = text.split("\n")
    found, _ = ends(lines)
    names = Program.read(text).names
    marks, seen, period = {name: (1, 1, 1, 1) for name in names}, [(1, 1)], [1]
    least = {1: 1, 2: 2, 3: 6, 4: 12, 5: 60, 6: 60}

    def power(t, n):
        return t ** min(n, 30)

    def factor(x, y):
        (n, _, _, _), (m, t, steady, _) = x, y
        if steady:
            return t if m == 1 else power(t, n)
        return least.get(t, 1000) if m == 1 else 1000

    def times(number):
        period[0] = min(MOST, period[0] * min(MOST, number))

    def go(start, stop):
        at = start
        while at < stop:
            words = lines[at].split()
            if words[1:2] == ["="]:
                put(words[0], words[2:])
            elif words != ["stop"]:
                behind_else, end = found[at]
                if words[0] == "times":
                    for _ in range(int(words[1])):
                        go(at + 1, end)
                else:
                    fork(words, at, end if behind_else is None else behind_else, end)
                at = end
            at += 1

    def fork(words, at, behind_else, end):
        if "divides" in words:
            times(factor(marks[words[-1]], marks[words[-2]]))
        ahead = dict(marks)
        go(at + 1, behind_else)
        one = dict(marks)
        marks.update(ahead)
        go(behind_else + 1, end)
        given = {line.split()[0] for line in lines[at:end] if line.split()[1:2] == ["="]}
        for name in names:
            pairs = list(zip(one[name], marks[name]))
            steady = 0 if name in given else ahead[name][2]
            marks[name] = (max(pairs[0]), max(pairs[1]), steady, min(pairs[3]))

    def put(name, words):
        if len(words) == 3 and words[1] in INFIX:
            words = [words[1], words[0], words[2]]
        plain = [int(one) for one in words[1:] if one.isdigit()]
        told = [marks[one] for one in words[1:] if not one.isdigit()]
        x, y = (told + [(1, 1, 1, 1)] * 2)[:2]
        (n, s, a, c), (m, t, b, d) = x, y
        k, f = (plain + [0])[0], factor(x, y)
        order, quotient = (n, n * (s + 2)), s + 1 if m == 1 else s * f + 1
        length, size = {
            "figures": (len(plain), max(1, sum(plain))), "number": (1, max(1, k)), "base": (2, 1), "let": (n, s),
            "+": (max(n, m), s + t), "-": (max(n, m), s + t), "lesser": (max(n, m), max(s, t)),
            "*": (n + m - 1, s * t), "**": (k * (n - 1) + 1, power(s, k)), "//": (n, quotient),
            "rest": (1, t) if m == 1 else (m, t * (s * f + 1) + s), "common": (max(n, m), max(s, t)),
            "turned": order, "least": order, "greatest": order, "first": order, "last": order,
            "sum": (2, n * (s + 2)), "many": (1, n), "root": (2, s + 4), "figure": (2, s + 2), "joined": (n + m, s + t),
        }[words[0]]
        if words[0] in ("//", "rest"):
            times(f)
        if words[0] == "*" and not a and not b:
            times(period[0])
        if words[0] == "**" and not a and k in (2, 3):
            times(period[0] ** (k - 1))
        if words[0] == "common" and not n == m == 1:
            if 1 in (n, m):
                size_of, sure = (s, a) if n == 1 else (t, b)
                times(size_of if sure else least.get(size_of, 1000))
            else:
                times(2 * s * t if n == m == 2 and a and b and c and d else 1000)
        steady = words[0] not in ("//", "rest", "common") and a and b
        straight = words[0] not in ("turned", "least", "greatest", "first", "last") and c and d
        marks[name] = (min(MOST, length), min(MOST, size), steady, straight)
        seen.append(marks[name][:2])

    go(0, len(lines))
    return max(n for n, _ in seen), max(s for _, s in seen), period[0]


class AnotherWay(Checks):

    def test_many_programs(self):
        maker, small = Maker(19), 0
        for _ in range(2500):
            text = maker.text(maker.random.randrange(1, 12))
            found = measures(Program.read(text))
            self.assertEqual(found, told_measures(text), text)
            small += 1 < found[2] < MOST
        self.assertGreater(small, 300)

    def test_measured_programs_repeat_by_their_period(self):
        """[4]: from some base on, in steps of the period, runs go one way and names hold polynomials."""
        maker, seen = Maker(4), 0
        for _ in range(1500):
            p = Program.read(maker.text(maker.random.randrange(2, 9), 2))
            length, size, period = measures(p)
            if length <= 8 and size <= 2000 and period <= 360 and size * period <= 5000:
                seen += 1
                for rest in range(0, period, 1 + period // 3):
                    self.repeats(p, 10 ** 12 - 10 ** 12 % period + rest, period, length)
        self.assertGreater(seen, 600)

    def repeats(self, p, base, period, length):
        bases = [base + period * k for k in range(length + 2)]
        self.assertEqual(len({came_to(p, one) for one in bases}), 1, (str(p), period))
        try:
            held = [run(p, one) for one in bases]
        except Stopped:
            return
        for name in p.names:
            row = [one[name] for one in held]
            while len(row) > 1:
                row = [after - ahead for ahead, after in zip(row, row[1:])]
            self.assertEqual(row, [0], (str(p), name, period))


if __name__ == "__main__":
    unittest.main()
