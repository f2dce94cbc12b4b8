"""[10]: the texts of programs, and what is no text of one."""

import unittest

from everybase.errors import FigureError, InvalidText
from everybase.programs import Program
from everybase.rows import Ask, If, Not, Put, Stop, Times
from tests.samples import program

SAME = Ask("same", "x", "y")

LINES = {
    "z = figures 1 2 1": Put("z", "figures", 1, 2, 1),
    "z = figures 0": Put("z", "figures", 0),
    "z = figures 35 0 10 0": Put("z", "figures", 35, 0, 10, 0),
    "z = number 17": Put("z", "number", 17),
    "z = number 0": Put("z", "number", 0),
    "z = number 999999999": Put("z", "number", 999999999),
    "z = base": Put("z", "base"),
    "z = let x": Put("z", "let", "x"),
    "z = x + y": Put("z", "+", "x", "y"),
    "z = x - y": Put("z", "-", "x", "y"),
    "z = x * y": Put("z", "*", "x", "y"),
    "z = x // y": Put("z", "//", "x", "y"),
    "z = rest x y": Put("z", "rest", "x", "y"),
    "z = x ** 2": Put("z", "**", "x", 2),
    "z = turned x": Put("z", "turned", "x"),
    "z = least x": Put("z", "least", "x"),
    "z = greatest x": Put("z", "greatest", "x"),
    "z = sum x": Put("z", "sum", "x"),
    "z = many x": Put("z", "many", "x"),
    "z = root x": Put("z", "root", "x"),
    "z = figure 0 x": Put("z", "figure", 0, "x"),
    "z = first 2 x": Put("z", "first", 2, "x"),
    "z = last 10 x": Put("z", "last", 10, "x"),
    "z = joined x y": Put("z", "joined", "x", "y"),
    "z = common x y": Put("z", "common", "x", "y"),
    "z = lesser x y": Put("z", "lesser", "x", "y"),
    "stop": Stop(),
    # Names that are words of lines: what stands where decides.
    "if = base": Put("if", "base"),
    "if = let if": Put("if", "let", "if"),
    "end = end + end": Put("end", "+", "end", "end"),
    "else = sum else": Put("else", "sum", "else"),
    "stop = number 1": Put("stop", "number", 1),
    "not = let let": Put("not", "let", "let"),
    "let = let let": Put("let", "let", "let"),
    "sum = sum sum": Put("sum", "sum", "sum"),
    "base = base + base": Put("base", "+", "base", "base"),
    "sum = sum + many": Put("sum", "+", "sum", "many"),
    "root = root ** 3": Put("root", "**", "root", 3),
    "rest = rest rest rest": Put("rest", "rest", "rest", "rest"),
    "last = last 3 last": Put("last", "last", 3, "last"),
    "abcd = abcd // zzzz": Put("abcd", "//", "abcd", "zzzz"),
}
TESTS = {
    "same x y": SAME,
    "less x y": Ask("less", "x", "y"),
    "divides x x": Ask("divides", "x", "x"),
    "mirrored x": Ask("mirrored", "x"),
    "unlike abcd": Ask("unlike", "abcd"),
    "not same x y": Not(SAME),
    "not not not unlike x": Not(Not(Not(Ask("unlike", "x")))),
    "same same same": Ask("same", "same", "same"),
    "less not less": Ask("less", "not", "less"),
    "mirrored not": Ask("mirrored", "not"),
    "not mirrored not": Not(Ask("mirrored", "not")),
    "same if end": Ask("same", "if", "end"),
}
NO_LINES = (
    "", " ", "  ", "x", "x =", "= base", " = base", "=", "= =", "x = =", "x == base", "x=base", "x= base", "x =base",
    " z = base", "z = base ", "z = base x", "z = base 1", "z  = base", "z =  base", "z = Base", "Z = base",
    "abcde = base", "z1 = base", "1 = base", "_ = base", "z\t= base", "z = base\t", "z = base\r", "z = base\x0b",
    "z = let", "z = let x y", "z = let X", "z = let 1", "z = let abcde", "z = let  x", "z = x", "z = 17",
    "z = figures", "z = figures ", "z = figures x", "z = figures 1 x", "z = figures 1  2", "z = figures 1 2 ",
    "z = figures 01", "z = figures 1 00", "z = figures -1", "z = figures +1", "z = figures 1,2", "z = figures 1.0",
    "z = number", "z = number x", "z = number 1 2", "z = number 017", "z = number 00", "z = number 1234567890",
    "z = number 0000000001", "z = number 1_0", "z = number -0", "z = number 0x1", "z = number 1e3",
    "z = x + 1", "z = 1 + x", "z = x + y + z", "z = x  + y", "z = x +  y", "z = x + y ", "z = x +", "z = + x",
    "z = + x y", "z = - x y", "z = * x y", "z = // x y", "z = ** x 2", "z = x ++ y", "z = x / y", "z = x % y",
    "z = x rest y", "z = x joined y", "z = rest x", "z = rest x y z", "z = rest x 2", "z = x ** y", "z = 2 ** x",
    "z = x ** 02", "z = x ** -1", "z = x ** 2 3", "z = x ** 1000000000", "z = turned", "z = turned 12",
    "z = turned x y", "z = first x 2", "z = first x", "z = first 2", "z = first 2 3", "z = first 02 x",
    "z = last 2 x y", "z = figure x", "z = figure 1 1", "z = total x", "z = greatest 1", "z = plus x y",
    "stop ", " stop", "Stop", "stop stop", "stop 1", "stop x", "end end", "else else", "times", "times x",
    "repeat 2", "pass", "#", "# stop", "x = base # none", "if", "if ", "if x", "not same x y", "same x y", "mirrored x",
)
NO_BLOCKS = (
    "if same x", "if same x y z", "if same  x y", "if same x y ", " if same x y", "if  same x y", "if Same x y",
    "if same x 1", "if same X y", "if same abcde y", "if mirrored", "if mirrored x y", "if not", "if not x",
    "if not mirrored", "if not  mirrored x", "if notmirrored x", "if equal x y", "if true", "if same x y then",
    "IF same x y", "if = same x y", "if (same x y)", "times 2 ", "times  2", " times 2", "times 02", "times 00",
    "times -1", "times 1234567890", "times 2 2", "times 2 x", "times two", "Times 2", "times = 2", "times = base",
    "times 2\t", "times",
)


class Checks(unittest.TestCase):

    def refused(self, at, text):
        with self.assertRaises(InvalidText, msg=repr(text)) as caught:
            Program.read(text)
        self.assertEqual(caught.exception.at, at, repr(text))
        self.assertIs(type(caught.exception.at), int)
        self.assertIsInstance(caught.exception, FigureError)

    def read(self, text, *rows):
        found = Program.read(text)
        self.assertEqual(found.rows, tuple(rows), text)
        return found


class Right(Checks):

    def test_no_rows(self):
        self.read("")
        self.assertEqual(str(Program.read("")), "")

    def test_each_line(self):
        for line, row in LINES.items():
            found = self.read(line, row)
            self.assertEqual(str(found), line)
            self.assertEqual(vars(found[0]), vars(row), line)

    def test_each_test(self):
        for text, test in TESTS.items():
            found = self.read(f"if {text}\nstop\nend", If(test, [Stop()]))
            self.assertEqual(found[0].test, test)
            self.assertEqual(str(found), f"if {text}\nstop\nend")

    def test_all_lines_together(self):
        self.read("\n".join(LINES), *LINES.values())

    def test_blocks(self):
        put = Put("x", "base")
        self.read("if same x y\nend", If(SAME, []))
        self.read("if same x y\nx = base\nend", If(SAME, [put]))
        self.read("if same x y\nx = base\nelse\nstop\nend", If(SAME, [put], [Stop()]))
        self.read("if same x y\nelse\nstop\nend", If(SAME, [], [Stop()]))
        self.read("times 0\nend", Times(0, []))
        self.read("times 3\nx = base\nstop\nend", Times(3, [put, Stop()]))
        self.read("times 999999999\nend\nx = base", Times(999999999, []), put)
        self.read("if same x y\nend\nif same x y\nend", If(SAME, []), If(SAME, []))

    def test_an_else_without_lines_is_read_but_not_written(self):
        for text in ("if same x y\nstop\nelse\nend", "if same x y\nelse\nend"):
            found = Program.read(text)
            self.assertEqual(found[0].others, ())
            self.assertEqual(str(found), text.replace("else\n", ""))
            self.assertEqual(Program.read(str(found)), found)

    def test_blocks_three_deep(self):
        text = "\n".join((
            "x = base", "times 2", "if not mirrored x", "if less x y", "stop", "else", "times 4", "y = let x", "end",
            "end", "else", "times 1", "times 0", "end", "end", "x = x + y", "end", "y = base", "end", "stop",
        ))
        inner = If(Ask("less", "x", "y"), [Stop()], [Times(4, [Put("y", "let", "x")])])
        middle = If(Not(Ask("mirrored", "x")), [inner], [Times(1, [Times(0, [])]), Put("x", "+", "x", "y")])
        found = self.read(text, Put("x", "base"), Times(2, [middle, Put("y", "base")]), Stop())
        self.assertEqual(str(found), text)
        self.assertEqual(Program.read(str(found)), found)

    def test_an_else_belongs_to_the_block_that_is_open(self):
        test = "if same x y"
        both = "\n".join((test, test, "else", "stop", "end", "else", "x = base", "end"))
        self.read(both, If(SAME, [If(SAME, [], [Stop()])], [Put("x", "base")]))
        outer = "\n".join((test, test, "end", "else", "stop", "end"))
        self.read(outer, If(SAME, [If(SAME, [])], [Stop()]))
        again = "\n".join((test, "times 2", "end", "else", "stop", "end"))
        self.read(again, If(SAME, [Times(2, [])], [Stop()]))
        last = "\n".join((test, "else", test, "else", "stop", "end", "end"))
        self.read(last, If(SAME, [], [If(SAME, [], [Stop()])]))

    def test_by_name_and_off_an_object(self):
        self.assertEqual(Program.read(text="stop").rows, (Stop(),))
        self.assertEqual(program("x = base").read("stop").rows, (Stop(),))
        self.assertIs(type(Program.read("stop")), Program)

    def test_a_text_of_2000_characters(self):
        text = "\n".join(["z = figures " + " ".join(["9"] * 988), "stop", "stop"])[:2000]
        self.assertEqual(len(text), 1997)
        self.assertEqual(str(Program.read(text)), text)
        lines = "\n".join(["stop"] * 400)
        self.assertEqual(len(Program.read(lines)), 400)


class Wrong(Checks):

    def test_each_line_that_is_none(self):
        for line in NO_LINES + NO_BLOCKS:
            if line != "":
                self.refused(0, line)
            self.refused(1, f"stop\n{line}")
            self.refused(2, f"stop\nx = base\n{line}\nstop\n{line}")
            self.refused(1, f"if same x y\n{line}\nend")
            self.refused(3, f"times 2\nstop\nstop\n{line}\nend\nend")

    def test_a_block_that_is_begun_by_a_wrong_line_is_wrong_there(self):
        for line in NO_BLOCKS:
            self.refused(0, f"{line}\nstop\nend")
            self.refused(1, f"if same x y\n{line}\nstop\nend\nend")

    def test_empty_lines(self):
        self.refused(0, "\n")
        self.refused(0, "\n\n")
        self.refused(0, "\nstop")
        self.refused(1, "stop\n")
        self.refused(1, "stop\n\nstop")
        self.refused(3, "if same x y\nstop\nend\n")

    def test_a_second_else(self):
        self.refused(2, "if same x y\nelse\nelse\nend")
        self.refused(4, "if same x y\nstop\nelse\nstop\nelse\nstop\nend")
        self.refused(6, "if same x y\nif same x y\nelse\nend\nelse\nstop\nelse\nend")

    def test_an_else_of_a_times(self):
        self.refused(1, "times 2\nelse\nend")
        self.refused(2, "times 2\nstop\nelse\nstop\nend")
        self.refused(2, "if same x y\ntimes 2\nelse\nend\nend")

    def test_an_else_or_an_end_without_its_block(self):
        self.refused(0, "else")
        self.refused(0, "end")
        self.refused(0, "else\nstop\nend")
        self.refused(1, "stop\nend")
        self.refused(1, "stop\nelse")
        self.refused(2, "times 2\nend\nend")
        self.refused(3, "if same x y\nstop\nend\nelse")
        self.refused(4, "if same x y\nelse\nstop\nend\nend\nend")

    def test_a_block_without_its_end(self):
        self.refused(1, "if same x y")
        self.refused(1, "times 2")
        self.refused(2, "times 2\nstop")
        self.refused(3, "if same x y\nstop\nelse")
        self.refused(4, "times 2\ntimes 2\nstop\nend")
        self.refused(5, "stop\nif same x y\ntimes 1\nend\nx = base")

    def test_the_first_wrong_line_is_told(self):
        self.refused(1, "if same x y\nz = z\nelse\nelse")
        self.refused(2, "times 2\nstop\nelse\nz = z\n")
        self.refused(0, "end\nif same x y")
        self.refused(3, "if same x y\ntimes 2\nend\n\nend\nend")

    def test_whitespace_of_other_kinds_parts_no_words_and_no_lines(self):
        for sign in "\t\r\x0b\x0c\x1c\x85\xa0\u2028":
            self.refused(0, f"stop{sign}stop")
            self.refused(0, f"z{sign}= base")
            self.refused(1, f"stop\nz = let{sign}x")

    def test_figures_of_other_alphabets_are_none(self):
        for sign in ("\u0661", "\u00b2", "\uff11", "\u096a"):
            self.refused(0, f"z = number {sign}")
            self.refused(0, f"times 1{sign}\nend")


if __name__ == "__main__":
    unittest.main()
