"""[26], [27], [28]: programs that do the same, tests that surely hold, rows that are needless."""

import inspect
import unittest

from everybase import alike as module
from everybase.alike import alike, least_breach, least_parting, needless, partings, sure
from everybase.bases import Bases
from everybase.books import book
from everybase.programs import Program
from everybase.reading import test_of
from everybase.rows import Ask, Not
from tests.measured import BIG, SAMPLES, is_measured, made
from tests.reference import asked, reference
from tests.samples import program

BASES = tuple(range(2, 70)) + BIG
SETS = (None, Bases.none(), Bases.every(), Bases.of([2, 7, 30]), Bases.rest(3, -1), Bases.upward(12),
        ~Bases.rest(2, 0) | Bases.of([4]),
        Bases.of([10 ** 30]), Bases.upward(10 ** 30))


def lines(text):
    return program(*text.split(" ; "))


def ends(p):
    """What the names of a program hold at the end of its runs in the bases above, None if one stops."""
    text = str(p)
    return [reference(text, base)[0] for base in BASES]


def are_the_same(one, other):
    if one is None or other is None:
        return one is other
    return all(one.get(name, 0) == other.get(name, 0) for name in list(one) + list(other))


PAIRS = (
    ("x = base ; x = x + x", "x = figures 2 0", "2"), ("x = figures 1 1 ; x = x * x", "x = figures 1 2 1", "2"),
    ("x = base", "x = base ; y = let z", "none"), ("x = base", "x = base ; y = number 1", "from 2: 0 of 1"),
    ("x = base ; x = q - x ; y = base", "z = base ; stop", "none"), ("stop", "x = base ; stop ; stop", "none"),
    ("stop", "", "from 2: 0 of 1"), ("", "", "none"), ("x = let y", "", "none"),
    ("x = base", "y = base", "from 2: 0 of 1"),
    ("x = base ; y = number 9 ; z = x - y", "x = base ; y = number 9 ; z = x - y ; z = x - y", "none"),
    ("x = base ; y = number 5 ; x = x * y", "x = base ; y = number 5 ; x = x * x", "2 3 4, from 6: 0 of 1"),
    ("x = base ; y = number 20", "x = base ; y = number 20 ; if same x y ; x = let z ; end", "20"),
    ("x = base ; y = number 6 ; z = common x y",
     "x = base ; y = number 6 ; if divides y x ; z = let y ; else ; z = number 1 ; end",
     "from 2: 2 3 4 of 6"),
    ("x = base ; y = number 2 ; z = rest x y", "x = base ; y = number 2 ; z = rest x y ; if same z q ; z = let q ; end",
     "none"),
    ("x = base ; y = number 2 ; z = rest x y", "x = base ; y = number 2", "from 2: 1 of 2"),
    ("x = base ; y = number 50 ; z = lesser x y", "x = base ; y = number 50 ; z = let x", "from 51: 0 of 1"),
    ("x = base ; y = number 3 ; z = x * y", "x = base ; y = number 2 ; z = x + x ; y = number 3", "from 2: 0 of 1"),
)


class Alike(unittest.TestCase):

    def test_pairs(self):
        for one, other, told in PAIRS:
            p, q = lines(one) if one else Program(), lines(other) if other else Program()
            for a, b in ((p, q), (q, p)):
                self.assertEqual(str(partings(a, b)), told, (one, other))
                self.assertIs(alike(a, b), told == "none")
                self.assertEqual(least_parting(a, b), partings(a, b).lowest)

    def test_programs_that_do_the_same_with_other_books(self):
        p, q = lines("x = base ; stop"), lines("y = base ; y = z - y")
        self.assertTrue(alike(p, q))
        self.assertFalse(book(p) == book(q))

    def test_samples_beside_runs(self):
        for p, q in zip(SAMPLES, SAMPLES[1:] + SAMPLES[:1]):
            self.assert_pair(p, q)

    def test_many_beside_runs(self):
        found = [one for one, _ in made(3, 150)]
        for p, q in zip(found, found[1:]):
            first = ends(p)
            self.assert_pair(p, q, first)
            for at in range(0, len(p), 3):
                if is_measured(p.without(at)):
                    self.assert_pair(p, p.without(at), first)

    def assert_pair(self, p, q, first=None):
        told = partings(p, q)
        for base, one, other in zip(BASES, first or ends(p), ends(q)):
            self.assertEqual(base in told, not are_the_same(one, other), (str(p), str(q), base))
        self.assertIs(alike(p, q), not told)
        self.assertEqual(least_parting(p, q), told.lowest)

    def test_within(self):
        p, q = lines(PAIRS[13][0]), lines(PAIRS[13][1])
        whole = partings(p, q)
        for bases in SETS[1:]:
            told = partings(p, q, within=bases)
            self.assertEqual(told, whole & bases)
            self.assertIs(alike(p, q, within=bases), not told)
            self.assertEqual(least_parting(p, q, within=bases), told.lowest)
        self.assertEqual(partings(p, q, within=None), whole)
        self.assertTrue(alike(p, q, within=Bases.rest(6, 0)))
        self.assertFalse(alike(p, q, within=Bases.of([4])))
        self.assertEqual(least_parting(p, q, within=Bases.upward(5)), 8)

    def test_great_periods(self):
        p = lines("x = base ; y = number 15 ; z = rest x y ; y = number 17 ; u = rest x y")
        q = lines("x = base ; y = number 13 ; z = rest x y ; y = number 16 ; u = rest x y")
        self.assertTrue(is_measured(p) and is_measured(q))
        self.assertEqual(str(partings(p, q)), "from 2: 0 of 1")
        self.assertEqual(least_parting(p, q, within=Bases.rest(360, 1)), 361)
        p = lines("x = base ; y = number 64 ; x = rest x y")
        q = lines("x = base ; y = number 63 ; x = rest x y ; y = number 64")
        told = partings(p, q)
        self.assertEqual((told.lowest, told.period, len(told.rests)), (63, 4032, 4032 - 63))

    def test_parameters(self):
        for work in (alike, least_parting, partings):
            told = inspect.signature(work).parameters
            self.assertEqual(list(told), ["p", "q", "within"])
            self.assertEqual((told["within"].kind, told["within"].default), (told["within"].KEYWORD_ONLY, None))
        self.assertTrue(alike(p=Program(), q=Program()))


class Sure(unittest.TestCase):

    def test_examples(self):
        for text, test, breach in (
            ("x = base ; y = number 9 ; z = x - y", "less z x", None), ("x = base ; y = number 9 ; z = x - y",
                "less z y", 18),
            ("x = base ; y = number 9 ; z = x - y", "not less z y", 9),
            ("x = base ; y = number 9 ; z = x - y", "not same x z", None),
            ("stop", "less x x", None), ("stop", "not less x x", None), ("", "same x y", None), ("", "not same x y", 2),
            ("x = figures 1 2 1", "mirrored x", None), ("x = figures 1 2 1", "not unlike x", None),
            ("x = figures 1 2 1", "unlike x", 3),
            ("x = base ; y = number 6", "divides y x", 2), ("x = base ; y = number 6", "not divides x y", 2),
            ("x = base ; y = number 6", "not divides y x", 6), ("x = base ; y = number 40", "not not not same x y", 40),
            ("x = base ; y = number 3 ; y = rest x y ; if same y z ; stop ; end ; y = x * x", "not divides x z", 2),
        ):
            one, ask = lines(text) if text else Program(), test_of(test.split(" "))
            self.assertEqual(least_breach(one, ask), breach, (text, test))
            self.assertIs(sure(one, ask), breach is None)

    def test_many_beside_runs(self):
        for one, test in made(4, 150) + [(one, test) for one in SAMPLES for test in (Ask("less", "z", "x"),
            Not(Ask("unlike", "x")))]:
            if not is_measured(one, test):
                continue
            words, held = str(test).split(), list(zip(BASES, ends(one)))
            for bases in (None, Bases.rest(3, 1), Bases.of([5, 8])):
                broken = [base for base, end in held if (bases is None or base in bases)
                          and end is not None and not asked(words, end, base)]
                told = least_breach(one, test, within=bases)
                if broken:
                    self.assertEqual(told, broken[0], (str(one), str(test)))
                else:
                    self.assertTrue(told is None or told not in BASES)
                self.assertIs(sure(one, test, within=bases), told is None)

    def test_within(self):
        one = lines("x = base ; y = number 6")
        ask = Ask("divides", "y", "x")
        for bases, breach in ((Bases.none(), None), (Bases.rest(12, 6), None), (Bases.every(), 2), (Bases.upward(6), 7),
                              (Bases.of([12, 10 ** 30]), 10 ** 30), (Bases.rest(4, 0), 4)):
            self.assertEqual(least_breach(one, ask, within=bases), breach)
            self.assertIs(sure(one, ask, within=bases), breach is None)

    def test_parameters(self):
        for work in (sure, least_breach):
            told = inspect.signature(work).parameters
            self.assertEqual(list(told), ["program", "test", "within"])
            self.assertEqual((told["within"].kind, told["within"].default), (told["within"].KEYWORD_ONLY, None))
        self.assertEqual(list(inspect.signature(needless).parameters), ["program"])


class Needless(unittest.TestCase):

    def test_examples(self):
        for text, numbers in (
            ("", ()), ("x = base", ()), ("x = let y", (0,)), ("x = number 0", (0,)), ("stop", ()),
            ("stop ; stop", (0, 1)),
            ("x = base ; x = base", (0, 1)), ("x = number 1 ; x = base", (0,)),
            ("x = base ; y = let x ; y = let x", (1, 2)),
            # A row behind a stop, a block around one that is needed, and one in a block.
            ("stop ; x = base", (1,)), ("times 2 ; x = base ; x = base ; end", (1, 2)),
            ("times 0 ; stop ; end", (0, 1)),
            ("x = base ; if same x y ; x = number 4 ; end", (1, 2)),
            ("x = base ; y = number 40 ; if less y x ; else ; y = number 3 ; y = number 4 ; end", (3,)),
            ("x = base ; y = number 1000 ; if same x y ; y = number 99 ; end".replace("1000", "99"), (2, 3)),
            ("x = base ; y = number 98 ; if same x y ; y = number 99 ; end", ()),
            ("x = base ; x = x + x ; x = let x", (2,)), ("if same x y ; if mirrored x ; x = base ; end ; end", ()),
        ):
            one = lines(text) if text else Program()
            self.assertEqual(needless(one), numbers, text)
        self.assertEqual(needless(program=lines("x = let y")), (0,))

    def test_many_beside_partings(self):
        for one, _ in made(5, 120):
            if all(is_measured(one.without(at)) for at in range(len(one))):
                numbers = needless(one)
                self.assertEqual(numbers, tuple(at for at in range(len(one)) if alike(one, one.without(at))), str(one))
                first = ends(one)
                for at in numbers:
                    self.assertTrue(all(map(are_the_same, first, ends(one.without(at)))))


class Module(unittest.TestCase):

    def test_nothing_else_is_told(self):
        for name in ("alike", "least_parting", "partings", "sure", "least_breach", "needless"):
            self.assertEqual(getattr(module, name).__module__, "everybase.alike")


if __name__ == "__main__":
    unittest.main()
