"""[7] to [9], and of [1] to [3] what rows and tests keep."""

import inspect
import unittest

from everybase import rows
from everybase.errors import FigureError, InvalidRow
from everybase.rows import Ask, If, Not, Put, Row, Stop, Test, Times
from tests.samples import NO_NAMES, NO_NUMBERS, NO_ROWS, SAME, THINGS, X_LET_Y

# The deeds with the kinds of what stands behind them (n a name, k a number), and a text of theirs.
DEEDS = {
    "number": ("k", (17,), "z = number 17"),
    "base": ("", (), "z = base"),
    "let": ("n", ("x",), "z = let x"),
    "+": ("nn", ("x", "y"), "z = x + y"),
    "-": ("nn", ("x", "y"), "z = x - y"),
    "*": ("nn", ("x", "y"), "z = x * y"),
    "//": ("nn", ("x", "y"), "z = x // y"),
    "rest": ("nn", ("x", "y"), "z = rest x y"),
    "**": ("nk", ("x", 2), "z = x ** 2"),
    "turned": ("n", ("x",), "z = turned x"),
    "least": ("n", ("x",), "z = least x"),
    "greatest": ("n", ("x",), "z = greatest x"),
    "sum": ("n", ("x",), "z = sum x"),
    "many": ("n", ("x",), "z = many x"),
    "root": ("n", ("x",), "z = root x"),
    "figure": ("kn", (2, "x"), "z = figure 2 x"),
    "first": ("kn", (2, "x"), "z = first 2 x"),
    "last": ("kn", (2, "x"), "z = last 2 x"),
    "joined": ("nn", ("x", "y"), "z = joined x y"),
    "common": ("nn", ("x", "y"), "z = common x y"),
    "lesser": ("nn", ("x", "y"), "z = lesser x y"),
}
WORDS = {"same": 2, "less": 2, "divides": 2, "mirrored": 1, "unlike": 1}
NO_DEEDS = (
    "", "Let", "plus", "/", "%", "***", "=", "+ ", " let", "total", "joined ", "figures 1", "x", "stop", "if", "name",
    "given", "turned\n", 0, 1, True, False, None,
) + THINGS
NO_WORDS = (
    "", "Same", "not", "equal", "same ", "same x", "x", "if", "names", "word", 0, 2, True, False, None,
) + THINGS
NO_TESTS = (None, True, False, 0, 1, "", "same x y", "x", [], (), [SAME], (SAME,), X_LET_Y, Stop(), Times(1, ()))
GOOD_NAMES = ("a", "z", "xy", "abc", "abcd", "zzzz", "let", "base", "sum", "if", "end", "else", "stop", "not")


class Checks(unittest.TestCase):

    def refused(self, word, make, /, *given, **named):
        with self.assertRaises(InvalidRow, msg=(make, given, named)) as caught:
            make(*given, **named)
        self.assertEqual(caught.exception.word, word, (make, given, named))
        self.assertIsInstance(caught.exception, FigureError)


class Puts(Checks):

    def test_each_deed_with_right_arguments(self):
        self.assertEqual(len(DEEDS), 21)
        for deed, (_, given, text) in DEEDS.items():
            row = Put("z", deed, *given)
            self.assertIsInstance(row, Row)
            self.assertNotIsInstance(row, Test)
            self.assertEqual((row.name, row.deed, row.given), ("z", deed, given))
            self.assertIs(type(row.given), tuple)
            self.assertEqual(str(row), text)

    def test_figures(self):
        for given in ((0,), (1, 2, 1), (35, 0, 35, 0, 35, 35), (99,), (0, 0), tuple(range(40))):
            row = Put("z", "figures", *given)
            self.assertEqual((row.name, row.deed, row.given), ("z", "figures", given))
            self.assertEqual(str(row), "z = figures " + " ".join(map(str, given)))
        self.refused("given", Put, "z", "figures")
        for wrong in NO_NUMBERS:
            self.refused("given", Put, "z", "figures", wrong)
            self.refused("given", Put, "z", "figures", 1, 2, wrong)
            self.refused("given", Put, "z", "figures", wrong, 1)

    def test_names(self):
        for name in GOOD_NAMES:
            self.assertEqual(str(Put(name, "+", name, "x")), f"{name} = {name} + x")
            self.assertEqual(str(Put("x", "rest", "y", name)), f"x = rest y {name}")
            self.assertEqual(Put(name, "let", name).given, (name,))
        for wrong in NO_NAMES:
            self.refused("name", Put, wrong, "base")
            self.refused("name", Put, wrong, "let", "x")

    def test_no_deed(self):
        for wrong in NO_DEEDS:
            self.refused("deed", Put, "z", wrong)
            self.refused("deed", Put, "z", wrong, "x", "y")

    def test_each_deed_with_one_wrong_argument(self):
        for deed, (kinds, given, _) in DEEDS.items():
            for at, kind in enumerate(kinds):
                for wrong in NO_NAMES if kind == "n" else NO_NUMBERS:
                    changed = given[:at] + (wrong,) + given[at + 1:]
                    self.refused("given", Put, "z", deed, *changed)

    def test_each_deed_with_too_few_or_too_many(self):
        for deed, (kinds, given, _) in DEEDS.items():
            if given:
                self.refused("given", Put, "z", deed, *given[:-1])
                self.refused("given", Put, "z", deed, given)
                self.refused("given", Put, "z", deed)
            for more in ("x", 1, None, ()):
                self.refused("given", Put, "z", deed, *given, more)
            if len(set(kinds)) == 2:
                self.refused("given", Put, "z", deed, *reversed(given))

    def test_plain_numbers_from_0_on(self):
        for k in (0, 1, 2, 9, 10, 99, 100, 10 ** 60):
            self.assertEqual(Put("z", "number", k).given, (k,))
            self.assertEqual(str(Put("z", "number", k)), f"z = number {k}")
            self.assertEqual(str(Put("z", "**", "x", k)), f"z = x ** {k}")
            for deed in ("figure", "first", "last"):
                self.assertEqual(str(Put("z", deed, k, "x")), f"z = {deed} {k} x")

    def test_a_number_that_is_too_long_to_be_written_is_taken(self):
        self.assertEqual(Put("z", "number", 10 ** 5000).given, (10 ** 5000,))

    def test_the_order_of_the_words(self):
        self.refused("name", Put, "Z", "none", None)
        self.refused("name", Put, None, None)
        self.refused("name", Put, "Z", "let")
        self.refused("deed", Put, "z", "none", None)
        self.refused("deed", Put, "z", ["let"], "x")

    def test_by_name(self):
        row = Put(deed="base", name="z")
        self.assertEqual(str(row), "z = base")
        self.refused("given", Put, name="z", deed="let")
        with self.assertRaises(TypeError):
            Put("z", "let", given=("x",))


class Asks(Checks):

    def test_each_word(self):
        for word, many in WORDS.items():
            names = ("x", "yz")[:many]
            test = Ask(word, *names)
            self.assertIsInstance(test, Test)
            self.assertNotIsInstance(test, Row)
            self.assertEqual((test.word, test.names), (word, names))
            self.assertIs(type(test.names), tuple)
            self.assertEqual(str(test), " ".join((word,) + names))

    def test_the_texts(self):
        self.assertEqual(str(Ask("same", "x", "y")), "same x y")
        self.assertEqual(str(Ask("less", "y", "x")), "less y x")
        self.assertEqual(str(Ask("divides", "x", "x")), "divides x x")
        self.assertEqual(str(Ask("mirrored", "same")), "mirrored same")
        self.assertEqual(str(Ask("unlike", "not")), "unlike not")

    def test_no_word(self):
        for wrong in NO_WORDS:
            self.refused("word", Ask, wrong)
            self.refused("word", Ask, wrong, "x")
            self.refused("word", Ask, wrong, "x", "y")
            self.refused("word", Ask, wrong, None, 3)

    def test_no_names(self):
        for word, many in WORDS.items():
            for count in range(5):
                if count != many:
                    self.refused("names", Ask, word, *["x"] * count)
            for at in range(many):
                for wrong in NO_NAMES:
                    names = ["x"] * many
                    names[at] = wrong
                    self.refused("names", Ask, word, *names)
            self.refused("names", Ask, word, ("x", "y")[:many])

    def test_by_name(self):
        self.refused("names", Ask, word="same")
        self.refused("word", Ask, word="none")
        with self.assertRaises(TypeError):
            Ask("mirrored", names=("x",))


class Nots(Checks):

    def test_text_and_attribute(self):
        once = Not(SAME)
        self.assertIsInstance(once, Test)
        self.assertNotIsInstance(once, Row)
        self.assertIs(once.test, SAME)
        self.assertEqual(str(once), "not same x y")
        self.assertEqual(str(Not(Not(once))), "not not not same x y")
        self.assertEqual(str(Not(test=Ask("unlike", "u"))), "not unlike u")

    def test_no_test(self):
        for wrong in NO_TESTS:
            self.refused("test", Not, wrong)
            self.refused("test", Not, test=wrong)


class Blocks(Checks):

    def test_attributes(self):
        some, others = [X_LET_Y, Stop()], [Stop()]
        block = If(SAME, some, others)
        self.assertIs(block.test, SAME)
        self.assertEqual((block.rows, block.others), ((X_LET_Y, Stop()), (Stop(),)))
        self.assertEqual((type(block.rows), type(block.others)), (tuple, tuple))
        self.assertEqual(If(SAME, some).others, ())
        self.assertEqual(If(SAME, ()).rows, ())
        again = Times(3, some)
        self.assertEqual((again.count, again.rows, type(again.rows)), (3, (X_LET_Y, Stop()), tuple))
        for row in (block, again):
            self.assertIsInstance(row, Row)
            self.assertNotIsInstance(row, Test)

    def test_lists_that_are_changed_afterwards(self):
        some, others = [X_LET_Y], [Stop()]
        block, again = If(SAME, some, others), Times(2, some)
        texts = str(block), str(again)
        some.append(Stop())
        others.clear()
        self.assertEqual((block.rows, block.others, again.rows), ((X_LET_Y,), (Stop(),), (X_LET_Y,)))
        self.assertEqual((str(block), str(again)), texts)

    def test_arguments_are_not_changed(self):
        some, others = [X_LET_Y], [Stop(), Stop()]
        str(If(SAME, some, others)), str(Times(2, some))
        self.assertEqual((some, others), ([X_LET_Y], [Stop(), Stop()]))

    def test_by_name(self):
        block = If(others=[Stop()], rows=(X_LET_Y,), test=SAME)
        self.assertEqual(str(block), "if same x y\nx = let y\nelse\nstop\nend")
        self.assertEqual(str(Times(rows=(), count=0)), "times 0\nend")

    def test_no_test(self):
        for wrong in NO_TESTS:
            self.refused("test", If, wrong, [X_LET_Y])
            self.refused("test", If, wrong, None, None)

    def test_no_count(self):
        for wrong in NO_NUMBERS:
            self.refused("count", Times, wrong, [X_LET_Y])
            self.refused("count", Times, wrong, None)
        for count in (0, 1, 4, 10 ** 60):
            self.assertEqual(Times(count, []).count, count)

    def test_no_rows(self):
        for wrong in NO_ROWS:
            self.refused("rows", If, SAME, wrong)
            self.refused("rows", If, SAME, [Stop()], wrong)
            self.refused("rows", If, SAME, wrong, wrong)
            self.refused("rows", Times, 2, wrong)

    def test_stop(self):
        self.assertEqual(str(Stop()), "stop")
        self.assertIsInstance(Stop(), Row)
        self.assertNotIsInstance(Stop(), Test)


class Texts(unittest.TestCase):

    def test_if(self):
        self.assertEqual(str(If(SAME, [])), "if same x y\nend")
        self.assertEqual(str(If(SAME, [], [])), "if same x y\nend")
        self.assertEqual(str(If(SAME, [X_LET_Y])), "if same x y\nx = let y\nend")
        self.assertEqual(str(If(SAME, [], [Stop()])), "if same x y\nelse\nstop\nend")
        self.assertEqual(str(If(Not(SAME), [Stop()], [X_LET_Y, Stop()])),
                         "if not same x y\nstop\nelse\nx = let y\nstop\nend")

    def test_times(self):
        self.assertEqual(str(Times(0, [])), "times 0\nend")
        self.assertEqual(str(Times(4, [X_LET_Y, Stop()])), "times 4\nx = let y\nstop\nend")

    def test_blocks_within_blocks(self):
        inner = If(Not(Ask("mirrored", "x")), [Times(2, [X_LET_Y])], [Stop(), If(SAME, [])])
        outer = Times(3, [Put("x", "figures", 1, 0), inner, Put("x", "**", "x", 3)])
        self.assertEqual(str(outer), "\n".join((
            "times 3", "x = figures 1 0", "if not mirrored x", "times 2", "x = let y", "end", "else", "stop",
            "if same x y", "end", "end", "x = x ** 3", "end",
        )))

    def test_many_blocks_within_one_another(self):
        row = Stop()
        for _ in range(40):
            row = Times(1, [row])
        self.assertEqual(str(row), "times 1\n" * 40 + "stop" + "\nend" * 40)


class Equal(unittest.TestCase):

    def made(self):
        """Rows and tests no two of which are equal."""
        put = Put("x", "let", "y")
        ask = Ask("same", "x", "y")
        found = [Put("z", deed, *given) for deed, (_, given, _) in DEEDS.items()]
        return found + [
            put, Put("y", "let", "x"), Put("x", "let", "x"), Put("x", "figures", 1), Put("x", "figures", 1, 0),
            Put("x", "figures", 10), Put("x", "figures", 0, 1), Put("x", "number", 10), Put("x", "number", 1),
            Put("x", "+", "y", "z"), Put("x", "+", "z", "y"), Put("x", "first", 1, "y"),
            ask, Ask("less", "x", "y"), Ask("same", "y", "x"), Ask("unlike", "x"), Ask("mirrored", "x"),
            Not(ask), Not(Not(ask)), Stop(),
            If(ask, []), If(ask, [put]), If(ask, [], [put]), If(ask, [put], [put]), If(Not(ask), [put]),
            If(ask, [put, put]), If(ask, [put], [Stop()]), If(ask, [If(ask, [put])]), If(ask, [If(ask, []), put]),
            Times(1, [put]), Times(2, [put]), Times(1, []), Times(1, [Times(1, [put])]), Times(1, [put, put]),
        ]

    def test_equal_by_class_and_text(self):
        for at, one in enumerate(self.made()):
            for place, other in enumerate(self.made()):
                self.assertIs(one == other, at == place, (str(one), str(other)))
                self.assertIs(one != other, at != place, (str(one), str(other)))

    def test_lists_and_tuples_make_the_same(self):
        self.assertEqual(If(SAME, [X_LET_Y], [Stop()]), If(SAME, (X_LET_Y,), (Stop(),)))
        self.assertEqual(If(SAME, [Stop()], []), If(SAME, [Stop()]))
        self.assertEqual(Times(2, [Stop()]), Times(2, (Stop(),)))

    def test_unequal_to_everything_else(self):
        values = (None, True, False, 0, 1, "", "stop", [], (), {}, object(), InvalidRow("rows"))
        for one in self.made():
            for other in values + (str(one), [one], (one,), type(one)):
                self.assertIs(one == other, False, (str(one), other))
                self.assertIs(other == one, False, (str(one), other))
                self.assertIs(one != other, True, (str(one), other))

    def test_unequal_to_what_calls_itself_equal_to_all(self):
        class Eager:
            def __eq__(self, other):
                return True

        for one in self.made():
            self.assertIs(one == Eager(), False, str(one))


class Shape(unittest.TestCase):

    def test_nothing_is_iterable(self):
        for one in Equal().made():
            with self.assertRaises(TypeError):
                iter(one)
            with self.assertRaises(TypeError):
                list(one)

    def test_each_class_has_its_own_methods(self):
        for kind in (Put, If, Times, Stop, Ask, Not):
            for method in ("__eq__", "__str__"):
                self.assertIn(method, vars(kind), kind)
            self.assertEqual(kind.__module__, "everybase.rows")
            self.assertEqual("__init__" in vars(kind), kind is not Stop)

    def test_rows_are_rows_and_tests_are_tests(self):
        self.assertEqual([issubclass(kind, Row) for kind in (Put, If, Times, Stop, Ask, Not, Test)],
                         [True, True, True, True, False, False, False])
        self.assertEqual([issubclass(kind, Test) for kind in (Put, If, Times, Stop, Ask, Not, Row)],
                         [False, False, False, False, True, True, False])

    def test_parameters(self):
        for kind, told in ((Put, "(name, deed, *given)"), (If, "(test, rows, others=())"), (Times, "(count, rows)"),
                           (Ask, "(word, *names)"), (Not, "(test)")):
            self.assertEqual(str(inspect.signature(kind)), told)

    def test_stop_takes_nothing(self):
        with self.assertRaises(TypeError):
            Stop(1)

    def test_attributes_are_those_of_the_document(self):
        for one, told in ((X_LET_Y, "name deed given"), (If(SAME, ()), "test rows others"), (Stop(), ""),
                          (Times(1, ()), "count rows"), (SAME, "word names"), (Not(SAME), "test")):
            self.assertEqual(sorted(vars(one)), sorted(told.split()))

    def test_str_changes_nothing(self):
        for one in Equal().made():
            before = dict(vars(one))
            self.assertEqual(str(one), str(one))
            self.assertEqual(vars(one), before)

    def test_the_tables_are_those_of_the_document(self):
        self.assertEqual(sorted(rows.DEEDS), sorted(list(DEEDS) + ["figures"]))
        self.assertEqual(rows.WORDS, WORDS)


if __name__ == "__main__":
    unittest.main()
