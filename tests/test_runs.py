"""[7], [8], [12], [13]: what rows and tests do in a told base, and of [1] to [3] what runs keep."""

import inspect
import unittest

from everybase.errors import FigureError, InvalidBase, Stopped
from everybase.programs import Program
from everybase.rows import Ask, If, Not, Put, Stop, Times
from everybase.runs import came_to, holds, run
from tests.reference import Maker, asked, reference
from tests.samples import NO_BASES, SAME, X_LET_Y, fields, program


class Checks(unittest.TestCase):

    def stops(self, at, lines, *bases):
        p = program(*lines)
        for base in bases:
            for work in (run, lambda p, base: p(base), lambda p, base: holds(p, base, SAME)):
                with self.assertRaises(Stopped, msg=(lines, base)) as caught:
                    work(p, base)
                self.assertEqual(caught.exception.at, at, (lines, base))
                self.assertIs(type(caught.exception.at), int)
                self.assertIsInstance(caught.exception, FigureError)

    def gives(self, expected, deed, base=10, **held):
        """What `z = deed` lets z hold when names hold these numbers."""
        lines = [f"{name} = number {number}" for name, number in held.items()]
        found = run(program(*lines, f"z = {deed}"), base)
        self.assertEqual(found["z"], expected, (deed, base, held))
        self.assertIs(type(found["z"]), int)


class Deeds(Checks):

    def test_figures(self):
        for base, expected in ((3, 16), (10, 121), (16, 289), (10 ** 30, (10 ** 30 + 1) ** 2)):
            self.gives(expected, "figures 1 2 1", base)
        self.gives(0, "figures 0", 2)
        self.gives(5, "figures 0 0 1 0 1", 2)
        self.gives(35, "figures 35", 36)
        self.gives(9 * 36 + 35, "figures 9 35", 36)
        self.gives(99, "figures 99", 100)

    def test_figures_stop(self):
        self.stops(0, ["z = figures 1 2 1"], 2)
        self.stops(0, ["z = figures 9 9 9 10"], 2, 9, 10)
        self.stops(0, ["z = figures 10 0"], 10)
        self.stops(0, ["z = figures 2"], 2)
        self.stops(0, ["z = figures 0 35"], 35)
        self.stops(2, ["x = base", "y = figures 1 1", "z = figures 0 3", "stop"], 2, 3)

    def test_number_and_base(self):
        for base in (2, 10, 10 ** 30):
            self.gives(17, "number 17", base)
            self.gives(0, "number 0", base)
            self.gives(999999999, "number 999999999", base)
            self.gives(base, "base", base)
        self.assertEqual(run(Program([Put("z", "number", 10 ** 60)]), 2), {"z": 10 ** 60})

    def test_let(self):
        self.gives(12, "let x", x=12)
        self.gives(0, "let x")
        self.gives(0, "let z")
        self.gives(5, "let z", z=5)

    def test_sums_differences_products(self):
        self.gives(19, "x + y", x=12, y=7)
        self.gives(24, "x + x", x=12)
        self.gives(5, "x - y", x=12, y=7)
        self.gives(0, "x - y", x=7, y=7)
        self.gives(0, "x - y")
        self.gives(84, "x * y", x=12, y=7)
        self.gives(0, "x * y", x=12)
        self.gives(20, "z + z", 3, z=10)

    def test_differences_stop(self):
        self.stops(2, ["x = number 6", "y = number 7", "z = x - y"], 2, 10)
        self.stops(1, ["y = number 1", "z = x - y"], 2, 10)
        self.stops(2, ["x = base", "y = number 12", "z = x - y"], 2, 11)
        self.assertEqual(program("x = base", "y = number 12", "z = x - y")(12)["z"], 0)

    def test_quotients_and_rests(self):
        for x in range(25):
            for y in range(1, 9):
                self.gives(x // y, "x // y", x=x, y=y)
                self.gives(x % y, "rest x y", x=x, y=y)
        self.gives(0, "x // y", y=3)
        self.gives(0, "rest x y", y=3)
        self.gives(1, "z // z", z=7)
        self.gives(0, "rest z z", z=7)

    def test_quotients_and_rests_stop(self):
        for deed in ("x // y", "rest x y"):
            self.stops(0, [f"z = {deed}"], 2, 10)
            self.stops(1, ["x = number 12", f"z = {deed}"], 2, 10)
            self.stops(3, ["x = base", "y = number 12", "y = y - y", f"z = {deed}"], 2, 10)
        self.stops(2, ["x = number 5", "y = figure 1 x", "z = x // y"], 6, 10)
        self.assertEqual(program("x = number 5", "y = figure 1 x", "z = x // y")(5)["z"], 5)

    def test_powers(self):
        for x in (0, 1, 2, 7):
            for k in range(6):
                self.gives(x ** k, f"x ** {k}", x=x)
        self.gives(1, "x ** 0")
        self.gives(0, "x ** 1")
        self.gives(10 ** 90, "base", 10 ** 90)
        self.assertEqual(program("x = base", "x = x ** 3")(10 ** 30), {"x": 10 ** 90})

    def test_figures_in_another_order(self):
        self.gives(1201, "turned x", x=1021)
        self.gives(21, "turned x", x=1200)
        self.gives(0, "turned x")
        self.gives(112, "least x", x=10210)
        self.gives(21100, "greatest x", x=10210)
        self.gives(0b0011, "least x", 2, x=0b1010)
        self.gives(0b1100, "greatest x", 2, x=0b1001)
        self.gives(0b101, "turned x", 2, x=0b1010)
        self.gives(17, "turned x", 10 ** 30, x=17)
        self.gives(10 * 12 + 1, "greatest x", 12, x=22)

    def test_sum_many_root(self):
        self.gives(18, "sum x", x=99)
        self.gives(2, "sum x", 99, x=100)
        self.gives(0, "sum x")
        self.gives(2, "many x", x=99)
        self.gives(7, "many x", 2, x=99)
        self.gives(1, "many x")
        self.gives(9, "root x", x=99)
        self.gives(2, "root x", x=38)
        self.gives(1, "root x", 2, x=99)
        self.gives(0, "root x", 2)

    def test_parts(self):
        self.gives(3, "figure 0 x", x=123)
        self.gives(1, "figure 2 x", x=123)
        self.gives(0, "figure 3 x", x=123)
        self.gives(0, "figure 8 x")
        self.gives(0, "first 0 x", x=123)
        self.gives(12, "first 2 x", x=123)
        self.gives(123, "first 3 x", x=123)
        self.gives(123, "first 8 x", x=123)
        self.gives(10, "first 2 x", x=102)
        self.gives(0, "last 0 x", x=123)
        self.gives(23, "last 2 x", x=123)
        self.gives(3, "last 2 x", x=103)
        self.gives(123, "last 8 x", x=123)
        self.gives(2, "first 2 x", 2, x=5)
        self.gives(1, "last 2 x", 2, x=5)

    def test_joined_common_lesser(self):
        self.gives(50, "joined x y", x=5)
        self.gives(5, "joined x y", y=5)
        self.gives(0, "joined x y")
        self.gives(127, "joined x y", x=12, y=7)
        self.gives(0b111, "joined x y", 2, x=3, y=1)
        self.gives(0b110, "joined x y", 2, x=3)
        self.gives(6, "common x y", x=12, y=18)
        self.gives(12, "common x y", x=12)
        self.gives(18, "common x y", y=18)
        self.gives(0, "common x y")
        self.gives(1, "common x y", x=9, y=10)
        self.gives(7, "lesser x y", x=12, y=7)
        self.gives(7, "lesser x y", x=7, y=12)
        self.gives(7, "lesser x y", x=7, y=7)
        self.gives(0, "lesser x y", x=7)

    def test_numbers_of_4000_places(self):
        lines = ["x = base"] + ["x = x ** 3"] * 8 + ["y = number 1", "z = x - y", "w = turned z"]
        lines += ["u = sum z", "v = many z", "s = least x", "r = root z", "q = greatest x"]
        found = program(*lines)(2)
        self.assertEqual(found["x"], 2 ** 6561)
        self.assertEqual((found["w"], found["u"], found["v"], found["s"]), (2 ** 6561 - 1, 6561, 6561, 1))
        self.assertEqual((found["r"], found["q"]), (1, 2 ** 6561))
        more = program("x = base", "times 4", "x = x ** 3", "end", "x = x * x", "y = turned x")(10 ** 25)
        self.assertEqual(more["x"], 10 ** 4050)
        self.assertEqual(more["y"], 1)


class Holding(Checks):

    def told(self, expected, text, base=10, **held):
        p = program(*[f"{name} = number {number}" for name, number in held.items()])
        for many in range(4):
            test = program(f"if {'not ' * many}{text}", "end")[0].test
            told = holds(p, base, test)
            self.assertIs(told, expected == (many % 2 == 0), (text, many, base, held))
            q = p + Program([If(test, [Put("q", "number", 1)], [Put("q", "number", 2)])])
            self.assertEqual(q(base)["q"], 1 if told else 2)

    def test_same_and_less(self):
        for x in range(3):
            for y in range(3):
                self.told(x == y, "same x y", x=x, y=y)
                self.told(x < y, "less x y", x=x, y=y)
        self.told(True, "same x x", x=3)
        self.told(False, "less x x", x=3)

    def test_divides(self):
        for x in range(1, 8):
            for y in range(25):
                self.told(y % x == 0, "divides x y", x=x, y=y)
        self.told(True, "divides x y", x=0, y=0)
        self.told(False, "divides x y", x=0, y=5)
        self.told(True, "divides x y", x=5, y=0)
        self.told(True, "divides x x", x=0)

    def test_mirrored_and_unlike(self):
        self.told(True, "mirrored x", x=121)
        self.told(False, "mirrored x", x=122)
        self.told(True, "mirrored x", 2, x=9)
        self.told(False, "mirrored x", 2, x=121)
        self.told(True, "mirrored x", x=0)
        self.told(True, "mirrored x", 11, x=12)
        self.told(False, "mirrored x", x=12)
        self.told(False, "mirrored x", x=100)
        self.told(True, "unlike x", x=120)
        self.told(False, "unlike x", x=121)
        self.told(True, "unlike x", x=0)
        self.told(False, "unlike x", 2, x=9)
        self.told(True, "unlike x", 122, x=121)

    def test_names_that_are_not_in_the_program(self):
        self.told(True, "same x y")
        self.told(False, "same x y", x=1)
        self.told(True, "same x y", x=0)
        self.told(True, "less q x", x=1)
        self.told(False, "less x q", x=1)
        self.told(True, "divides x q", x=7)
        self.told(False, "divides q x", x=7)
        self.told(True, "mirrored q")
        self.told(True, "unlike q", 2)

    def test_what_names_hold_at_the_end(self):
        p = program("x = number 5", "if same x y", "stop", "end", "x = base")
        self.assertIs(holds(p, 7, Ask("same", "x", "x")), True)
        self.assertIs(holds(p + program("y = number 7"), 7, SAME), True)
        self.assertIs(holds(p + program("y = number 7"), 8, SAME), False)

    def test_a_stop(self):
        for test in (SAME, Not(SAME), Ask("mirrored", "q")):
            with self.assertRaises(Stopped) as caught:
                holds(program("x = base", "stop"), 10, test)
            self.assertEqual(caught.exception.at, 1)

    def test_by_name(self):
        p = program("x = base")
        self.assertIs(holds(test=Ask("less", "y", "x"), base=2, program=p), True)


class Blocks(Checks):

    def test_if(self):
        lines = ["x = base", "y = number 9", "if less x y", "z = number 1", "else", "z = number 2", "w = x - y", "end",
                 "v = let z"]
        self.assertEqual(program(*lines)(8), {"v": 1, "w": 0, "x": 8, "y": 9, "z": 1})
        self.assertEqual(program(*lines)(12), {"v": 2, "w": 3, "x": 12, "y": 9, "z": 2})

    def test_blocks_without_rows(self):
        self.assertEqual(program("if same x y", "end", "times 3", "end", "times 0", "end", "z = base")(7),
                         {"x": 0, "y": 0, "z": 7})
        lines = ["x = number 1", "if same x y", "else", "z = base", "end"]
        self.assertEqual(program(*lines)(7), {"x": 1, "y": 0, "z": 7})
        self.assertEqual(run(Program([X_LET_Y, If(SAME, [], [Stop()])]), 2), {"x": 0, "y": 0})

    def test_times(self):
        for count in range(5):
            self.assertEqual(program("y = number 1", f"times {count}", "x = x + y", "y = y + y", "end")(10),
                             {"x": 2 ** count - 1, "y": 2 ** count})

    def test_three_deep(self):
        lines = ["x = number 1", "times 2", "times 3", "times 4", "y = y + x", "end", "z = z + x", "end", "w = w + x",
                 "end"]
        self.assertEqual(program(*lines)(2), {"w": 2, "x": 1, "y": 24, "z": 6})
        lines = ["b = base", "n = number 2", "o = number 1", "times 3", "if divides n b", "if same x o", "x = n + n",
                 "else", "x = x + o", "end", "else", "times 2", "x = x + b", "end", "end", "end"]
        self.assertEqual(program(*lines)(10)["x"], 5)
        self.assertEqual(program(*lines)(11)["x"], 66)

    def test_the_test_is_asked_once_ahead(self):
        lines = ["x = number 1", "if less y x", "y = number 5", "z = base", "else", "z = number 3", "end"]
        self.assertEqual(program(*lines)(7), {"x": 1, "y": 5, "z": 7})

    def test_stops_in_blocks(self):
        self.stops(2, ["x = base", "if less y x", "stop", "end"], 2, 10)
        self.stops(3, ["x = base", "if less x y", "stop", "else", "stop", "end"], 2, 10)
        self.stops(1, ["times 2", "z = x // y", "end"], 2, 10)
        self.stops(2, ["times 2", "times 1", "stop", "end", "stop", "end"], 2, 10)
        self.stops(3, ["times 2", "times 0", "stop", "end", "stop", "end"], 2, 10)
        self.assertEqual(program("times 0", "stop", "end", "if less x y", "stop", "end")(2), {"x": 0, "y": 0})

    def test_each_deed_that_stops_in_a_block_and_in_a_counted_one(self):
        for line in ("z = figures 1 12", "z = y - x", "z = x // y", "z = rest x y", "stop"):
            self.stops(1, ["x = base", line], 2, 10, 12)
            self.stops(3, ["x = base", "if less y x", "u = base", line, "end", "stop"], 2, 10, 12)
            self.stops(3, ["x = base", "if less x y", "u = base", "else", line, "end", "stop"], 2, 10, 12)
            self.stops(2, ["x = base", "times 3", line, "end", "stop"], 2, 10, 12)
            self.stops(4, ["x = base", "times 3", "if mirrored y", "times 2", line, "end", "end", "end"], 2, 10, 12)

    def test_a_stop_in_a_later_round(self):
        lines = ["n = number 3", "o = number 1", "times 4", "n = n - o", "x = x + o", "end"]
        self.stops(3, lines, 2, 10)
        self.assertEqual(program(*lines).replaced(2, Times(3, [Put("n", "-", "n", "o")]))(2)["n"], 0)

    def test_the_deeds_of_a_program_that_stops_are_not_told(self):
        p = program("x = base", "stop")
        for base in (2, 10, 2):
            with self.assertRaises(Stopped):
                run(p, base)
        self.assertEqual(p.without(1)(2), {"x": 2})


class CameTo(Checks):

    def came(self, lines, base, *expected):
        p = program(*lines)
        found = came_to(p, base)
        self.assertEqual(found, expected, (lines, base))
        self.assertIs(type(found), tuple)

    def test_all_rows(self):
        self.came(["x = base", "times 2", "y = base", "end", "z = base"], 10, 0, 1, 2, 3)
        self.assertEqual(came_to(Program(), 10), ())

    def test_rows_that_are_not_begun(self):
        lines = ["x = base", "if mirrored x", "y = base", "times 2", "y = base", "end", "else", "z = base", "end", "stop"]
        self.came(lines, 10, 0, 1, 5, 6)
        lines[0] = "x = number 3"
        self.came(lines, 10, 0, 1, 2, 3, 4, 6)
        self.came(["times 0", "x = base", "times 2", "y = base", "end", "end", "z = base"], 2, 0, 4)
        self.came(["if less x y", "x = base", "end", "times 1", "end"], 2, 0, 2)

    def test_the_row_at_which_it_stops_is_come_to(self):
        self.came(["stop"], 10, 0)
        self.came(["x = base", "z = figures 3 3", "y = base"], 3, 0, 1)
        self.came(["x = base", "z = figures 3 3", "y = base"], 4, 0, 1, 2)
        self.came(["x = base", "z = y - x", "stop"], 4, 0, 1)
        self.came(["z = x // y", "stop"], 4, 0)
        self.came(["z = rest x y", "stop"], 4, 0)
        self.came(["times 2", "x = base", "if less y x", "z = y - x", "z = base", "end", "y = base", "end"], 4, 0, 1, 2, 3)

    def test_each_once_over_all_rounds(self):
        lines = ["o = number 1", "n = number 2", "times 4", "x = x + o", "if less n x", "y = y - x", "else", "z = z + x",
                 "end", "w = base", "end", "stop"]
        self.came(lines, 10, 0, 1, 2, 3, 4, 5, 6, 7)

    def test_by_name(self):
        self.assertEqual(came_to(base=2, program=program("stop")), (0,))


class Results(Checks):

    def test_the_document(self):
        p = program("x = figures 1 1", "y = x * x", "z = sum y", "if mirrored y", "z = z + x", "end")
        self.assertEqual(run(p, 10), {"x": 11, "y": 121, "z": 15})
        for base in (3, 10, 99):
            self.assertEqual(run(p, base)["z"], base + 5)
        self.assertEqual(run(p, 2), {"x": 3, "y": 9, "z": 5})
        q = program("x = figures 1 0 0", "y = number 2", "z = x // y", "u = z - y", "if divides y x", "u = turned u",
                    "end")
        self.assertEqual(run(q, 10)["u"], 84)
        self.assertEqual(run(q, 7)["u"], 22)

    def test_names_ascending_with_those_that_nothing_gives_to(self):
        p = program("z = base", "b = let a", "ab = sum q", "if same f z", "y = base", "end")
        found = run(p, 7)
        self.assertEqual(list(found.items()), [("a", 0), ("ab", 0), ("b", 0), ("f", 0), ("q", 0), ("y", 0), ("z", 7)])
        self.assertIs(type(found), dict)
        self.assertEqual(tuple(found), p.names)
        self.assertEqual(run(Program(), 7), {})

    def test_a_dict_that_is_changed(self):
        p = program("x = base")
        found = run(p, 7)
        found["x"] = 0
        found["y"] = 1
        self.assertEqual(run(p, 7), {"x": 7})

    def test_a_program_that_is_called(self):
        p = program("x = base", "y = figures 1 2")
        self.assertEqual(p(10), {"x": 10, "y": 12})
        self.assertEqual(p(base=3), {"x": 3, "y": 5})
        self.assertEqual(list(p(3)), ["x", "y"])
        for base in NO_BASES:
            with self.assertRaises(InvalidBase):
                p(base)
        with self.assertRaises(Stopped) as caught:
            p(2)
        self.assertEqual(caught.exception.at, 1)

    def test_no_base(self):
        test = Ask("mirrored", "x")
        for p in (Program(), program("x = base"), program("stop"), program("z = x // y")):
            for wrong in NO_BASES:
                for work in (run, came_to, lambda p, base: holds(p, base, test), lambda p, base: p(base)):
                    with self.assertRaises(InvalidBase, msg=wrong):
                        work(p, wrong)

    def test_nothing_is_changed(self):
        p = program("x = base", "times 2", "if mirrored x", "x = x + x", "end", "end")
        before, test = fields(p), Not(SAME)
        for base in (2, 10, 3):
            run(p, base), came_to(p, base), holds(p, base, test)
        self.assertEqual(fields(p), before)
        self.assertEqual(str(test), "not same x y")
        self.assertEqual([run(p, 10) == run(p, 10), came_to(p, 3) == came_to(p, 3)], [True, True])

    def test_by_name_and_parameters(self):
        self.assertEqual(run(base=2, program=program("x = base")), {"x": 2})
        for work, told in ((run, "(program, base)"), (came_to, "(program, base)"), (holds, "(program, base, test)")):
            self.assertEqual(str(inspect.signature(work)), told)
            self.assertEqual(work.__module__, "everybase.runs")


class AnotherWay(Checks):

    def compare(self, text, base, test):
        p = Program.read(text)
        held, at, came = reference(text, base)
        self.assertEqual(came_to(p, base), came, (text, base))
        if held is None:
            self.stops(at, text.split("\n"), base)
        else:
            self.assertEqual(run(p, base), {name: held.get(name, 0) for name in p.names}, (text, base))
            told = program(f"if {test}", "end")[0].test
            self.assertIs(holds(p, base, told), asked(test.split(), held, base), (text, base, test))
        return held is None

    def test_many_programs(self):
        maker = Maker(20261119)
        stopped = 0
        for _ in range(600):
            text, test = maker.text(), maker.test()
            self.assertEqual(str(Program.read(text)), text)
            for base in (2, 3, 7, 10, 60):
                stopped += self.compare(text, base, test)
        # Enough of both, or this would show little.
        self.assertTrue(500 < stopped < 2500, stopped)


if __name__ == "__main__":
    unittest.main()
