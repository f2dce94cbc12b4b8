"""[37], [38]: desks and their commands."""

import unittest

from everybase.books import book
from everybase.desk import Desk
from everybase.errors import FigureError, InvalidCommand, InvalidText, NoRow
from everybase.figures import figures_of
from everybase.programs import Program
from everybase.rows import Ask, Put
from everybase.runs import run
from tests.measured import SAMPLES
from tests.samples import THINGS, fields

MANY = "9" * 18
X_LESS = "read x = base ; y = number 9 ; z = x - y"


def desk(*commands):
    made = Desk()
    for command in commands:
        made.say(command)
    return made


class Case(unittest.TestCase):

    def assert_refused(self, made, *commands):
        before, text = made.program, str(made.program)
        for command in commands:
            with self.assertRaises(InvalidCommand, msg=command) as caught:
                made.say(command)
            self.assertIsInstance(caught.exception, FigureError)
        self.assertIs(made.program, before)
        self.assertEqual(str(made.program), text)


class Commands(Case):

    def test_at_first(self):
        made = Desk()
        self.assertEqual((len(made), made.program, made.say("show"), made.undo()), (0, Program(), "-", False))
        self.assertIsInstance(made.program, Program)
        self.assertEqual((made.say("run 2"), made.say("book"), made.say("where same x y"), made.say("worth x 0")),
                         ("-", "2 1", "from 2: 0 of 1", "0"))
        self.assertEqual(made.say(command="show"), "-")

    def test_row(self):
        made = Desk()
        for at, line in enumerate(("x = figures 1 2 1", "y = x ** 2", "stop", "z = first 2 x", "a = base",
                                   "x = number 999999999")):
            self.assertEqual(made.say("row " + line), str(at + 1))
            self.assertEqual((len(made), str(made.program[at])), (at + 1, line))

    def test_no_row_of_a_put_or_a_stop(self):
        self.assert_refused(desk("row x = base"), "row", "row x", "row x =", "row if same x y", "row times 2",
                            "row else", "row end", "row stop stop",
                            "row x = number 01", "row x = number 1000000000", "row x = number -1", "row X = base",
                            "row abcde = base", "row x = basis",
                            "row x = base x", "row x = x + 1", "row x = + x x", "row show", "row row stop",
                            "row x = base ; y = base", "row  stop",
                            "row stop ", " row stop", "row\nstop", "row stop\n", "row x = base\ny = base", "rows stop",
                            "Row stop", "row x=base")

    def test_drop(self):
        made = desk("read x = base ; if same x y ; y = base ; z = base ; else ; stop ; end ; u = base")
        self.assertEqual((len(made), made.say("drop 2"), made.say("show")),
                         (6, "5", "x = base ; if same x y ; z = base ; else ; stop ; end ; u = base"))
        self.assertEqual((made.say("drop 3"), made.say("show")), ("4",
                                                                  "x = base ; if same x y ; z = base ; end ; u = base"))
        self.assertEqual((made.say("drop 1"), made.say("show")), ("2", "x = base ; u = base"))
        self.assertEqual((made.say("drop 0"), made.say("drop 0"), made.say("show")), ("1", "0", "-"))

    def test_drop_no_row(self):
        made = desk("read x = base ; stop")
        before = fields(made.program)
        for at in (2, 3, 10, int(MANY)):
            with self.assertRaises(NoRow) as caught:
                made.say(f"drop {at}")
            self.assertEqual(caught.exception.at, at)
        self.assertEqual(fields(made.program), before)
        self.assert_refused(made, "drop", "drop 00", "drop 01", "drop -1", "drop +1", "drop x", "drop 0 1", "drop 0 0",
                            "drop  0", "drop 0 ", "drop 1" + MANY,
                            "drop 1.0", "drop 0x0", "drop 1_0", "drop \u0661", "drop 0\n", "Drop 0", "drop")

    def test_read(self):
        made = desk("row stop")
        text = "x = base ; if not same x y ; times 2 ; y = x * x ; end ; else ; stop ; end"
        self.assertEqual((made.say("read " + text), made.say("show")), ("5", text))
        self.assertEqual(made.program, Program.read(text.replace(" ; ", "\n")))
        self.assertEqual((made.say("read"), made.say("show"), len(made)), ("0", "-", 0))
        self.assertEqual((made.say("read stop"), made.say("show")), ("1", "stop"))
        self.assertEqual((made.say("read if same x x ; else ; end"), made.say("show")), ("1", "if same x x ; end"))

    def test_read_what_is_no_program(self):
        made = desk("row stop")
        for text, at in (("x", 0), ("x = base ; y", 1), ("end", 0), ("if same x y", 1), ("if same x y ; x = base", 2),
                         (";", 0), ("; x = base", 0),
                         ("x = base ;", 0), ("x = base ; ; y = base", 1), ("x = base ; ; ; y = base", 1),
                         ("stop ; else", 1), ("x = base; y = base", 0),
                         ("x = base ; times 01 ; end", 1), ("stop ; stop ; x = number 1000000000", 2), ("read", 0),
                         ("x = base\t", 0)):
            with self.assertRaises(InvalidText) as caught:
                made.say("read " + text)
            self.assertEqual(caught.exception.at, at, text)
            self.assertEqual(str(made.program), "stop")
        self.assert_refused(made, "read ", "read  stop", "read stop ; ", "read stop ;  stop", "read stop\nstop",
                            "read\n", "reads stop", "read stop ")

    def test_show(self):
        made = desk("row x = base", "row y = figures 1 2")
        self.assertEqual(made.say("show"), "x = base ; y = figures 1 2")
        self.assert_refused(made, "show x", "show ", " show", "show 0", "Show", "shows", "show\n")

    def test_run(self):
        made = desk("read x = figures 1 1 ; y = x * x ; a = let q")
        self.assertEqual((made.say("run 10"), made.say("run 2"), made.say("run 3")),
                         ("a 0 ; q 0 ; x 1.1 ; y 1.2.1", "a 0 ; q 0 ; x 1.1 ; y 1.0.0.1",
                          "a 0 ; q 0 ; x 1.1 ; y 1.2.1"))
        made = desk("row x = number 99", "row y = x * x")
        self.assertEqual((made.say("run 60"), made.say("run " + MANY)), ("x 1.39 ; y 2.43.21", "x 99 ; y 9801"))
        self.assertEqual(desk("row stop").say("run 2"), "stops 0")
        made = desk(X_LESS)
        self.assertEqual((made.say("run 8"), made.say("run 9")), ("stops 2", "x 1.0 ; y 1.0 ; z 0"))
        self.assert_refused(made, "run", "run 0", "run 1", "run 02", "run -2", "run x", "run 2 3", "run 1" + MANY,
                            "run 2.0", "run  2", "run 2 ", "run \u0662")

    def test_worth(self):
        made = desk("read x = base ; y = number 2 ; z = x // y")
        self.assertEqual([made.say(f"worth z {rest}") for rest in (0, 1, 2, 3, MANY)],
                         ["b / 2", "(b - 1) / 2", "b / 2", "(b - 1) / 2", "(b - 1) / 2"])
        self.assertEqual((made.say("worth y 0"), made.say("worth q 7"), made.say("worth abcd 0")), ("2", "0", "0"))
        made = desk("read x = base ; y = number 3 ; z = rest x y ; if same z q ; stop ; end")
        for name, text in (("x", "b"), ("q", "0"), ("v", "0")):
            self.assertEqual([made.say(f"worth {name} {rest}") for rest in range(4)], ["stops 4", text, text, "stops 4"])
        self.assert_refused(made, "worth", "worth x", "worth 0", "worth 0 x", "worth X 0", "worth abcde 0",
                            "worth x 00", "worth x -1", "worth x 0 0", "worth x y",
                            "worth x 1" + MANY, "worth x1 0", "worth  x 0", "worth x 0 ")

    def test_where(self):
        made = desk("read x = base ; y = number 6")
        self.assertEqual((made.say("where less x y"), made.say("where divides y x"),
                          made.say("where not not not mirrored y"), made.say("where not same q r")),
                         ("2 3 4 5", "from 2: 0 of 6", "2 3 4 6", "none"))
        self.assertEqual(desk(X_LESS).say("where not less z y"), "from 18: 0 of 1")
        self.assert_refused(made, "where", "where not", "where same x", "where same x y z", "where x",
                            "where mirrored x y", "where less x 6", "where less x Y",
                            "where  less x y", "where less x y ", "where if less x y", "where notless x y",
                            "where same x y ; same y x")

    def test_book(self):
        made = desk("read x = base ; y = number 2 ; z = x // y ; y = number 50 ; y = x - y")
        self.assertEqual(made.say("book"), "50 2")
        self.assert_refused(made, "book 0", "book x", "book ", "Book", "books")

    def test_no_command(self):
        values = THINGS + (None, True, False, 0, 1, -1, ["show"], ("show",), b"show", Program(), Desk(),
                           Put("x", "base"), Ask("mirrored", "x"))
        self.assert_refused(desk("row stop"), *values)
        self.assert_refused(desk("row stop"), "", " ", "\n", "x", "show show", "undo", "help", "drop\n0", "show\nshow",
                            "row\tstop", "x" * 2000, "SHOW", "0", "-")

    def test_beside_the_other_functions(self):
        for one in SAMPLES:
            made = Desk()
            told = made.say("read " + str(one).replace("\n", " ; ") if len(one) else "read")
            self.assertEqual((told, made.program, len(made)), (str(len(one)), one, len(one)))
            whole = book(one)
            self.assertEqual(made.say("book"), f"{whole.start} {whole.period}")
            self.assertEqual(made.say("where same x y"), str(whole.where(Ask("same", "x", "y"))))
            for rest in range(whole.period):
                tale = whole.tale(rest)
                for name in one.names:
                    self.assertEqual(made.say(f"worth {name} {rest}"), f"stops {tale}" if isinstance(tale,
                        int) else str(tale[name]))
            for base in (37, 100):
                if base not in whole.stops() and one.names:
                    told = [f"{name} {'.'.join(map(str, figures_of(number, base)))}" for name,
                            number in run(one, base).items()]
                    self.assertEqual(made.say(f"run {base}"), " ; ".join(told))


class Undo(Case):

    def test_behind_each_command(self):
        made = Desk()
        shown = [made.say("show")]
        for command in ("row x = base", "row stop", "drop 1", "read x = base ; y = base ; stop", "row z = base", "read",
                        "drop 0", "row stop"):
            if command == "drop 0":
                self.assertRaises(NoRow, made.say, command)
                continue
            made.say(command)
            shown.append(made.say("show"))
            for other in ("show", "run 10", "book", "where same x y", "worth x 0"):
                made.say(other)
        while len(shown) > 1:
            self.assertEqual(made.say("show"), shown.pop())
            self.assertIs(made.undo(), True)
        self.assertEqual((made.say("show"), made.undo(), made.undo(), made.say("show"), len(made)),
                         ("-", False, False, "-", 0))

    def test_behind_what_was_taken_back(self):
        made = desk("row x = base", "row y = base")
        self.assertIs(made.undo(), True)
        made.say("row z = base")
        self.assertEqual(made.say("show"), "x = base ; z = base")
        self.assertEqual((made.undo(), made.say("show")), (True, "x = base"))
        self.assertEqual((made.undo(), made.say("show"), made.undo()), (True, "-", False))

    def test_a_command_that_changes_nothing_is_taken_back_too(self):
        made = desk("row stop", "read stop", "read stop")
        self.assertEqual([made.undo() for _ in range(4)], [True, True, True, False])

    def test_what_is_refused_is_not_taken_back(self):
        made = desk("row stop")
        for command in ("row x", "drop 5", "read x", "show x", None):
            self.assertRaises((InvalidCommand, NoRow, InvalidText), made.say, command)
        self.assertEqual((made.undo(), made.undo()), (True, False))


class Desks(Case):

    def test_each_has_its_own_program(self):
        one, other = desk("row stop"), desk("row x = base")
        one.say("row stop")
        self.assertEqual((len(one), len(other)), (2, 1))
        kept = other.program
        other.say("row stop")
        self.assertEqual((str(kept), str(other.program)), ("x = base", "x = base\nstop"))

    def test_they_are_not_iterable(self):
        for work in (iter, list, tuple, sorted):
            self.assertRaises(TypeError, work, desk("row stop"))

    def test_the_order_of_what_is_refused(self):
        made = desk("row stop")
        for command in ("drop 9 ", "drop 09", "read x\n", "read  x"):
            self.assertRaises(InvalidCommand, made.say, command)


if __name__ == "__main__":
    unittest.main()
