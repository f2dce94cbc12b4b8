"""[21], [22], [23], and of [4] what is divided: worths, beside what deeds come to base by base."""

import random
import unittest

from everybase import figures
from everybase.bases import Bases
from everybase.errors import FigureError, InvalidBase, InvalidWorth, NotWhole
from everybase.terms import Term
from everybase.worths import Worth
from tests.reference import Halt, asked, deed
from tests.samples import NO_BASES, NO_NUMBERS, fields

BASE = Worth.base()
SMALL = tuple(range(2, 50))
SOME = SMALL + (97, 100, 120, 121, 360, 501, 1001, 5040, 10 ** 6 + 1, 10 ** 12 + 7, 10 ** 30)
NOWHERE = Worth.number(5) - 6
SAMPLES = (
    Worth.number(0), Worth.number(1), Worth.number(9), Worth.number(100), BASE, BASE + 1, BASE - 2, BASE - 3, 7 - BASE,
    BASE * 5 - 5, Worth.figures(1, 0, 0), Worth.figures(1, 2, 1), Worth.figures(7), Worth.figures(0, 0, 3, 1),
    (BASE * BASE + 1) // 2, BASE ** 3 - BASE * 100 - 7, BASE // 3, BASE % 4, BASE.within(Bases.of([5, 9, 12])),
    (BASE + 2).within(Bases.rest(3, 1)) | 8, (BASE * BASE - 1).within(Bases.rest(2, 0)),
    (BASE ** 2 // 3 + 5).within(~Bases.of([2, 7])), (BASE - 2) ** 2, NOWHERE,
)
LINES = (
    Worth.number(0), Worth.number(3), BASE, BASE + 1, BASE * 2 + 3, BASE * 4 - 5, BASE * 5 + 5, BASE * 3, BASE * 2 - 4,
    (BASE + 1).within(Bases.rest(2, 0)) | (BASE * 2 - 1), BASE.within(Bases.rest(3, 1)),
    BASE.within(Bases.of([2, 6, 9])),
    (BASE - BASE).within(Bases.of([4, 8])) | (BASE + 5), NOWHERE,
)


def words_of(sign, others):
    """The words of a row's text behind its `=`, for `x` and as many names or numbers as there are."""
    if sign in ("+", "-", "*", "//", "**"):
        return ["x", sign, str(others[0]) if sign == "**" else "y"]
    if sign in ("figure", "first", "last"):
        return [sign, str(others[0]), "x"]
    return [sign, "x", "y"][:len(others) + 2]


def number_in(worth, base):
    return worth(base) if isinstance(worth, Worth) else worth


def by_base(sign, one, others, base):
    """What a deed comes to in a base, told by the second way of running."""
    held = {"x": number_in(one, base)}
    if others:
        held["y"] = number_in(others[0], base)
    if None in held.values():
        return None
    try:
        return deed(words_of(sign, others), held, base)
    except Halt:
        return None


class Case(unittest.TestCase):

    def assert_worth(self, worth, numbers, bases=SOME):
        """The worth has these numbers, and its attributes tell so, by the least period and then the least start."""
        for base in bases:
            self.assertEqual(worth(base), numbers(base), base)
        self.assert_told(worth)

    def assert_told(self, worth):
        self.assertEqual((type(worth.terms), type(worth.lone)), (tuple, tuple))
        self.assertEqual((len(worth.terms), len(worth.lone)), (worth.period, worth.start - 2))
        for base in range(2, worth.start + 2 * worth.period):
            self.assertEqual(worth(base), self.told_at(worth, base))
        for short in range(1, worth.period):
            if worth.period % short == 0:
                self.assertNotEqual(list(worth.terms), list(worth.terms[:short]) * (worth.period // short))
        if worth.start > 2:
            self.assertNotEqual(worth.lone[-1], self.term_at(worth, worth.start - 1))

    def told_at(self, worth, base):
        if base < worth.start:
            return worth.lone[base - 2]
        return self.term_at(worth, base)

    def term_at(self, worth, base):
        term = worth.terms[base % worth.period]
        self.assertTrue(term is None or isinstance(term, Term))
        try:
            return None if term is None else term(base)
        except NotWhole:
            return "not whole"


class Making(Case):

    def test_number(self):
        for k in (0, 1, 99, 10 ** 60):
            worth = Worth.number(k)
            self.assertEqual((worth.start, worth.period, worth.terms, worth.lone), (2, 1, (Term(k),), ()))
            self.assert_worth(worth, lambda base: k)
        self.assertEqual(Worth.number(k=4), Worth.number(4))

    def test_no_number(self):
        for value in NO_NUMBERS:
            with self.assertRaises(InvalidWorth) as caught:
                Worth.number(value)
            self.assertEqual(caught.exception.word, "number")
        self.assertTrue(issubclass(InvalidWorth, FigureError))

    def test_base(self):
        self.assertEqual((BASE.start, BASE.period, BASE.terms, BASE.lone), (2, 1, (Term(0, 1),), ()))
        self.assert_worth(BASE, lambda base: base)

    def test_figures(self):
        worth = Worth.figures(1, 2, 1)
        self.assertEqual((worth.start, worth.period, worth.terms, worth.lone), (3, 1, (Term(1, 2, 1),), (None,)))
        worth = Worth.figures(0, 0, 4, 3)
        self.assertEqual((worth.start, worth.terms, worth.lone), (5, (Term(3, 4),), (None,) * 3))
        self.assertEqual(Worth.figures(0), Worth.number(0))
        self.assertEqual(Worth.figures(1, 1), BASE + 1)
        self.assertNotEqual(Worth.figures(2), Worth.number(2))
        worth = Worth.figures(500, 0, 499)
        self.assertEqual((worth.start, worth(500), worth(501)), (501, None, 500 * 501 ** 2 + 499))
        for given in ((7,), (1, 0), (0, 1, 9), (5, 5, 5, 5, 5, 5), (34, 35)):
            self.assert_worth(Worth.figures(*given), lambda base: (
                figures.number_of(given, base) if max(given) < base else None))

    def test_no_figures(self):
        for wrong in [()] + [(value,) for value in NO_NUMBERS] + [(1, value, 2) for value in NO_NUMBERS]:
            with self.assertRaises(InvalidWorth) as caught:
                Worth.figures(*wrong)
            self.assertEqual(caught.exception.word, "figures")

    def test_a_number_nowhere(self):
        for worth in (NOWHERE, BASE.within(Bases.none()), BASE // 0, BASE % 0, BASE - BASE - 1, NOWHERE + BASE):
            self.assertEqual((worth.start, worth.period, worth.terms, worth.lone), (2, 1, (None,), ()))
            self.assertEqual(worth.bases, Bases.none())
            self.assertTrue(worth == NOWHERE)
            self.assert_worth(worth, lambda base: None)

    def test_numbers_in_single_bases_alone(self):
        worth = (BASE * 3).within(Bases.of([2, 4]))
        self.assertEqual((worth.start, worth.period, worth.terms, worth.lone), (5, 1, (None,), (6, None, 12)))
        self.assertEqual(worth.bases, Bases.of([2, 4]))

    def test_numbers_in_the_bases_of_one_rest_alone(self):
        worth = (BASE * 3).within(Bases.rest(3, 1))
        self.assertEqual((worth.start, worth.period, worth.terms, worth.lone), (2, 3, (None, Term(0, 3), None), ()))
        self.assertEqual(str(worth.bases), "from 2: 1 of 3")

    def test_no_base(self):
        for worth in (BASE, NOWHERE, Worth.figures(1, 2)):
            for value in NO_BASES:
                self.assertRaises(InvalidBase, worth, value)
        self.assertEqual(BASE(base=7), 7)


class Attributes(Case):

    def test_least_period_and_then_least_start(self):
        for worth, start, period, texts, lone in (
            (BASE // 2, 2, 2, ("b / 2", "(b - 1) / 2"), ()), (BASE // 2 * 2 + BASE % 2, 2, 1, ("b",), ()),
            (BASE % 4, 2, 4, ("0", "1", "2", "3"), ()), (BASE % 4 % 2, 2, 2, ("0", "1"), ()),
            (BASE - 5, 5, 1, ("b - 5",), (None,) * 3), ((BASE - 5) | 0, 5, 1, ("b - 5",), (0,) * 3),
            (Worth.number(5).lesser(BASE), 5, 1, ("5",), (2, 3, 4)), (5 % BASE, 6, 1, ("5",), (1, 2, 1, 0)),
            (BASE // (BASE - 3), 7, 1, ("1",), (None, None, 4, 2, 2)), (Worth.figures(9) % 3, 10, 1, ("0",),
                (None,) * 8),
            (BASE.total(), 2, 1, ("1",), ()), (BASE.many(), 2, 1, ("2",), ()),
            ((BASE + 2).root(), 4, 1, ("3",), (1, 1)),
        ):
            self.assertEqual((worth.start, worth.period, tuple(map(str, worth.terms)), worth.lone),
                             (start, period, texts, lone))

    def test_example(self):
        half = (BASE * BASE + 1) // 2
        self.assertEqual([str(term) for term in half.terms], ["b^2 / 2", "(b^2 + 1) / 2"])
        self.assertEqual((half(10), half == (BASE ** 2 + 1) // 2), (50, True))
        eleven = Worth.figures(1, 1)
        self.assertIs(eleven ** 2 == Worth.figures(1, 2, 1), False)
        self.assertEqual(str((eleven ** 2).same(Worth.figures(1, 2, 1))), "from 3: 0 of 1")
        self.assertEqual((str(half.total().terms[1]), str(half.figure(0).same(0))), ("b", "from 2: 0 of 2"))

    def test_samples(self):
        for worth in SAMPLES + LINES:
            self.assert_told(worth)
            self.assertEqual([base in worth.bases for base in SOME], [worth(base) is not None for base in SOME])

    def test_in_place_operators_return_new_ones(self):
        kept = worth = Worth.figures(1, 2)
        before = fields(kept)
        worth += 5
        worth *= 2
        worth -= 3
        self.assertEqual(worth, (kept + 5) * 2 - 3)
        worth //= 2
        worth **= 2
        worth %= BASE
        self.assertEqual(worth, ((kept + 5) * 2 - 3) // 2 * (((kept + 5) * 2 - 3) // 2) % BASE)
        worth |= 1
        self.assertEqual(worth(2), 1)
        self.assertEqual(fields(kept), before)

    def test_they_are_not_iterable(self):
        for work in (iter, list, tuple, sorted):
            self.assertRaises(TypeError, work, BASE)


class Deeds(Case):

    def assert_deed(self, worth, sign, one, *others):
        self.assert_worth(worth, lambda base: by_base(sign, one, others, base))

    def test_sums_differences_products_and_the_lesser(self):
        for one in SAMPLES:
            for other in SAMPLES:
                self.assert_deed(one + other, "+", one, other)
                self.assert_deed(one - other, "-", one, other)
                self.assert_deed(one * other, "*", one, other)
                self.assert_deed(one.lesser(other), "lesser", one, other)

    def test_joined(self):
        for one in SAMPLES:
            for other in SAMPLES[::2]:
                self.assert_deed(one.joined(other), "joined", one, other)

    def test_plain_numbers_on_either_side(self):
        for one in SAMPLES:
            for k in (0, 1, 5, 12, 500):
                self.assert_deed(one + k, "+", one, k)
                self.assert_deed(k + one, "+", k, one)
                self.assert_deed(one - k, "-", one, k)
                self.assert_deed(k - one, "-", k, one)
                self.assert_deed(one * k, "*", one, k)
                self.assert_deed(k * one, "*", k, one)
                self.assert_deed(one.lesser(k), "lesser", one, k)
                self.assert_deed(one.joined(k), "joined", one, k)

    def test_powers(self):
        for one in SAMPLES:
            for k in range(4):
                self.assert_deed(one ** k, "**", one, k)

    def test_division_by_plain_numbers(self):
        for one in SAMPLES:
            for k in range(13):
                self.assert_deed(one // k, "//", one, k)
                self.assert_deed(one % k, "rest", one, k)
                self.assert_deed(one.common(k), "common", one, k)
                self.assert_deed(Worth.number(k).common(one), "common", k, one)

    def test_division_by_the_base(self):
        for one in SAMPLES:
            for by in (BASE, BASE + 1, BASE + 3, BASE - 1, BASE - 2, BASE - 3):
                self.assert_deed(one // by, "//", one, by)
                self.assert_deed(one % by, "rest", one, by)

    def test_division_of_lines(self):
        for one in LINES:
            for other in LINES:
                self.assert_deed(one // other, "//", one, other)
                self.assert_deed(one % other, "rest", one, other)
                self.assert_deed(one.common(other), "common", one, other)

    def test_plain_numbers_are_divided(self):
        for other in LINES:
            for k in (0, 1, 7, 12):
                self.assert_deed(k // other, "//", k, other)
                self.assert_deed(k % other, "rest", k, other)

    def test_what_is_divided_is_the_quotient_times_and_the_rest(self):
        for one in LINES:
            for other in LINES:
                divided = (one // other) * other + one % other
                where = one.bases & other.bases - other.same(0)
                self.assertTrue(divided == one.within(where))
                self.assertTrue(one % other < other)

    def test_figures(self):
        for one in SAMPLES:
            for word, worth in (("turned", one.turned()), ("least", one.least()), ("greatest", one.greatest()),
                                ("sum", one.total()), ("many", one.many()), ("root", one.root())):
                self.assert_deed(worth, word, one)

    def test_parts(self):
        for one in SAMPLES:
            for k in (0, 1, 2, 3, 8):
                self.assert_deed(one.figure(k), "figure", one, k)
                self.assert_deed(one.first(k), "first", one, k)
                self.assert_deed(one.last(k), "last", one, k)
        self.assertEqual(BASE.figure(k=1), Worth.number(1))
        self.assertEqual(BASE.first(k=1), BASE.last(k=2) // BASE)

    def test_beside_the_functions_of_figures(self):
        for one in ((BASE ** 3 - BASE * 7) // 4, BASE ** 2 * 3 - 1, (BASE * BASE + 1) // 2):
            for name in ("turned", "least", "greatest", "total", "many", "root"):
                worth, work = getattr(one, name)(), getattr(figures, name)
                for base in range(8, 200):
                    self.assertEqual(worth(base), work(one(base), base))

    def test_made_of_what_was_made(self):
        chance = random.Random(5)
        for _ in range(150):
            one, other = chance.choice(SAMPLES), chance.choice(SAMPLES)
            if chance.random() < 0.5:
                one = one // chance.randrange(1, 13) | other
            if one.period * other.period <= 60 and one.start <= 500:
                self.assert_deed(one * other, "*", one, other)
                self.assert_deed(one - other, "-", one, other)
                self.assert_deed(one.turned(), "turned", one)
                self.assert_deed(one.greatest(), "greatest", one)

    def test_by_the_names_of_the_arguments(self):
        self.assertEqual(BASE.joined(other=3), BASE.joined(3))
        self.assertEqual(BASE.common(other=6), BASE.common(6))
        self.assertEqual(BASE.lesser(other=6), BASE.lesser(6))
        self.assertEqual(BASE.last(k=1), Worth.number(0))
        self.assertEqual(BASE.within(bases=Bases.every()), BASE)


class Sets(Case):

    def assert_set(self, bases, word, one, *others):
        for base in SOME:
            told = [number_in(worth, base) for worth in (one,) + others]
            held = dict(zip("xy", told))
            holds = None not in told and asked([word] + list("xy")[:len(told)], held, base)
            self.assertEqual(base in bases, holds, (word, base))

    def test_two(self):
        for one in SAMPLES:
            for other in SAMPLES:
                self.assert_set(one.same(other), "same", one, other)
                self.assert_set(one.less(other), "less", one, other)
        for one in LINES:
            for other in LINES:
                self.assert_set(one.divides(other), "divides", one, other)

    def test_plain_numbers(self):
        for one in SAMPLES:
            for k in (0, 1, 6, 12, 100):
                self.assert_set(one.same(k), "same", one, k)
                self.assert_set(one.less(k), "less", one, k)
                self.assert_set(Worth.number(k).less(one), "less", k, one)
            for k in range(13):
                self.assert_set(one.divides(k), "divides", one, k)
                self.assert_set(Worth.number(k).divides(one), "divides", k, one)

    def test_one(self):
        for one in SAMPLES + LINES:
            self.assert_set(one.mirrored(), "mirrored", one)
            self.assert_set(one.unlike(), "unlike", one)

    def test_by_the_names_of_the_arguments(self):
        self.assertEqual(str(BASE.same(other=7)), "7")
        self.assertEqual(str(BASE.less(other=4)), "2 3")
        self.assertEqual(str(BASE.divides(other=12)), "2 3 4 6 12")

    def test_told_whole(self):
        self.assertEqual(str(Worth.number(4).divides(BASE * BASE)), "from 2: 0 of 2")
        self.assertEqual(str((BASE ** 2).less(BASE + 20)), "2 3 4")
        self.assertEqual(str((BASE * BASE).same(BASE * 7 - 12)), "3 4")


class Comparisons(Case):

    def test_by_base(self):
        for one in SAMPLES + LINES:
            for other in SAMPLES + LINES:
                pairs = [(one(base), other(base)) for base in range(2, 400)]
                pairs = [pair for pair in pairs if None not in pair]
                self.assertIs(one <= other, all(a <= b for a, b in pairs))
                self.assertIs(one < other, all(a < b for a, b in pairs))
                self.assertIs(one >= other, all(a >= b for a, b in pairs))
                self.assertIs(one > other, all(a > b for a, b in pairs))
                self.assertIs(one == other, [one(base) for base in SOME] == [other(base) for base in SOME])
                self.assertIs(one != other, not one == other)

    def test_plain_numbers(self):
        self.assertEqual((BASE >= 2, BASE > 2, BASE > 1, BASE <= 100, 2 <= BASE, 2 < BASE, 1 < BASE, 5 >= BASE),
                         (True, False, True, False, True, False, True, False))
        self.assertEqual((BASE % 3 < 3, 3 > BASE % 3, BASE % 3 <= 2, BASE % 3 < 2, 2 >= BASE % 3),
                         (True, True, True, False, True))

    def test_numbers_in_different_bases(self):
        even, odd = BASE.within(Bases.rest(2, 0)), BASE.within(Bases.rest(2, 1))
        self.assertTrue(even < odd and even > odd and even <= odd and even >= odd)
        self.assertFalse(even == odd)
        self.assertTrue(NOWHERE < NOWHERE and NOWHERE == NOWHERE)

    def test_a_breach_in_one_great_base(self):
        one, other = BASE * BASE, BASE * 101 - 100
        self.assertEqual(one.less(other), Bases.of(list(range(2, 100))))
        for end, told in ((100, (True, True)), (101, (True, False)), (102, (False, False))):
            within = other.within(~Bases.upward(end))
            self.assertEqual((one <= within, one < within), told)
            self.assertEqual((within >= one, within > one), told)

    def test_equality(self):
        self.assertTrue(BASE // 2 + (BASE + 1) // 2 == BASE)
        self.assertTrue(Worth.figures(1, 0).within(Bases.upward(5)) == BASE.within(~Bases.of([2, 3, 4])))
        self.assertFalse(BASE == BASE.within(~Bases.of([400])))
        self.assertFalse(BASE == BASE + 1)
        for other in (5, 5.0, "5", None, (5,), Term(5), Bases.of([5])):
            self.assertFalse(Worth.number(5) == other)
            self.assertFalse(other == Worth.number(5))

    def test_within(self):
        for one in SAMPLES:
            for bases in (Bases.none(), Bases.every(), Bases.of([3, 8]), Bases.rest(3, 1),
                          ~Bases.rest(4, 2) & Bases.upward(9)):
                self.assert_worth(one.within(bases), lambda base: one(base) if base in bases else None)

    def test_the_one_or_the_other(self):
        for one in SAMPLES:
            for other in SAMPLES + (3,):
                def number(base):
                    return number_in(other, base) if one(base) is None else one(base)
                self.assert_worth(one | other, number)
            self.assertEqual(3 | one, Worth.number(3))


if __name__ == "__main__":
    unittest.main()
