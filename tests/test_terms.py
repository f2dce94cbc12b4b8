"""[17], [18]: terms, beside polynomials that are lists of fractions."""

import random
import unittest
from fractions import Fraction
from math import gcd

from everybase.bases import Bases
from everybase.errors import FigureError, InvalidTerm, NotWhole
from everybase.terms import Term
from everybase.worths import Worth
from tests.reference_papers import add, at, mul, num, put_in, sub, trim
from tests.samples import NO_INTEGERS, NO_NUMBERS, fields


def told(term):
    return [Fraction(one, term.over) for one in term.coefficients]


def made(coefficients, over=1):
    return trim(Fraction(one, over) for one in coefficients)


def some(chance, degree=4, size=12):
    return ([chance.randrange(-size, size + 1) for _ in range(chance.randrange(degree + 2))],
            chance.choice((1, 1, 2, 3, 4, 6, 12)))


SAMPLES = (
    ((), 1), ((0,), 1), ((0, 0, 0), 7), ((5,), 1), ((-5,), 5), ((6, 4), 2), ((0, 1, 1), 2), ((1, 0, 0, -1), 3),
    ((0, 0, 3), 9), ((12, 18, 0, 0), 6), ((10 ** 9, -(10 ** 9)), 10 ** 9), ((0,) * 10 + (1,), 1), ((1, 2, 3), 10 ** 9),
    ((-100, 0, 1), 1), ((2, -3, 1), 1), ((10 ** 9, -(10 ** 9), 1), 1), ((-2, -1), 4),
)


class Making(unittest.TestCase):

    def test_lowest_terms(self):
        for coefficients, over, kept, below in (
            ((), 1, (), 1), ((0, 0), 12, (), 1), ((0, 2, 0), 4, (0, 1), 2), ((6, 4), 2, (3, 2), 1),
            ((6, 4), 4, (3, 2), 2),
            ((-3,), 6, (-1,), 2), ((0, 1, 1), 2, (0, 1, 1), 2), ((6, 0, 9, 0), 12, (2, 0, 3), 4),
            ((5, 7), 1, (5, 7), 1),
        ):
            term = Term(*coefficients, over=over)
            self.assertEqual((term.coefficients, term.over), (kept, below))
            self.assertIs(type(term.coefficients), tuple)
            self.assertEqual(term.degree, len(kept) - 1)

    def test_lowest_terms_of_many(self):
        chance = random.Random(1)
        for _ in range(300):
            coefficients, over = some(chance)
            term = Term(*coefficients, over=over)
            self.assertEqual(told(term), made(coefficients, over))
            self.assertGreaterEqual(term.over, 1)
            self.assertTrue(not term.coefficients or term.coefficients[-1] != 0)
            self.assertEqual(gcd(term.over, *term.coefficients), 1)

    def test_what_is_no_integer(self):
        for value in NO_INTEGERS:
            for wrong in ((value,), (1, value), (value, 1), (0, 0, value)):
                with self.assertRaises(InvalidTerm) as caught:
                    Term(*wrong, over=value)
                self.assertEqual(caught.exception.word, "coefficients")
            with self.assertRaises(InvalidTerm) as caught:
                Term(1, 2, over=value)
            self.assertEqual(caught.exception.word, "over")
        self.assertTrue(issubclass(InvalidTerm, FigureError))

    def test_over_is_from_1_on(self):
        for value in (0, -1, -2, -(10 ** 9)) + NO_NUMBERS:
            with self.assertRaises(InvalidTerm) as caught:
                Term(over=value)
            self.assertEqual(caught.exception.word, "over")
        self.assertEqual(Term(3, over=3), Term(1))
        with self.assertRaises(TypeError):
            Term(1, 2, coefficients=3)


class Values(unittest.TestCase):

    def test_values_in_any_integer(self):
        term = Term(0, 1, 1, over=2)
        self.assertEqual([term(base) for base in (-3, -2, -1, 0, 1, 2, 3, 10 ** 30)],
                         [3, 1, 0, 0, 1, 3, 6, (10 ** 60 + 10 ** 30) // 2])
        self.assertEqual(term(base=4), 10)
        self.assertEqual([Term()(base) for base in (-7, 0, 5)], [0, 0, 0])

    def test_values_that_are_not_whole(self):
        for term, wrong in ((Term(1, 1, over=2), (0, 2, -4)), (Term(1, over=2), (-1, 0, 1, 9)),
                            (Term(0, 0, 1, over=3), (1, 2, -1))):
            for base in wrong:
                with self.assertRaises(NotWhole):
                    term(base)
        self.assertEqual([Term(1, 1, over=2)(base) for base in (1, 3, -5)], [1, 2, -2])

    def test_values_of_many(self):
        for coefficients, over in SAMPLES:
            term = Term(*coefficients, over=over)
            for base in (-11, -1, 0, 1, 2, 3, 10, 360, 10 ** 30):
                value = at(made(coefficients, over), base)
                if value.denominator == 1:
                    self.assertEqual(term(base), value)
                    self.assertIs(type(term(base)), int)
                else:
                    self.assertRaises(NotWhole, term, base)


class Reckoning(unittest.TestCase):

    def test_operators(self):
        chance = random.Random(2)
        for _ in range(300):
            (a, over), (c, below), k = some(chance), some(chance), chance.randrange(-5, 6)
            x, y, p, q = Term(*a, over=over), Term(*c, over=below), made(a, over), made(c, below)
            self.assertEqual(told(x + y), add(p, q))
            self.assertEqual(told(x - y), sub(p, q))
            self.assertEqual(told(x * y), mul(p, q))
            self.assertEqual(told(-x), sub([], p))
            self.assertEqual((told(x + k), told(k + x)), (add(p, num(k)), add(num(k), p)))
            self.assertEqual((told(x - k), told(k - x)), (sub(p, num(k)), sub(num(k), p)))
            self.assertEqual((told(x * k), told(k * x)), (mul(p, num(k)), mul(num(k), p)))
            power = num(1)
            for exponent in range(5):
                self.assertEqual(told(x ** exponent), power)
                power = mul(power, p)
            self.assertEqual(told(x.moved(k)), put_in(p, [Fraction(k), Fraction(1)]))

    def test_power_0(self):
        for term in (Term(), Term(5), Term(1, 2, over=3)):
            self.assertEqual(str(term ** 0), "1")
            self.assertEqual(term ** 1, term)

    def test_in_place_operators_return_new_ones(self):
        kept = term = Term(1, 2, over=3)
        before = fields(kept)
        term += 1
        self.assertEqual(str(term), "(2 b + 4) / 3")
        term -= kept
        self.assertEqual(str(term), "1")
        term *= kept
        self.assertEqual(term, kept)
        self.assertIsNot(term, kept)
        term **= 2
        self.assertEqual(str(term), "(4 b^2 + 4 b + 1) / 9")
        self.assertEqual(fields(kept), before)

    def test_moved(self):
        term = Term(0, 0, 1)
        self.assertEqual([str(term.moved(k)) for k in (0, 1, -2)], ["b^2", "b^2 + 2 b + 1", "b^2 - 4 b + 4"])
        self.assertEqual(term.moved(k=3), Term(9, 6, 1))
        self.assertEqual(Term().moved(5), Term())

    def test_equality_is_that_of_polynomials(self):
        self.assertTrue(Term(2, 4, 0, over=6) == Term(1, 2, over=3))
        self.assertFalse(Term(1, 2) != Term(1, 2, 0))
        self.assertFalse(Term(1, 2) == Term(1, 2, over=2))
        self.assertFalse(Term(1, 2) == Term(2, 1))
        self.assertTrue(Term() == Term(0))
        for other in (5, (5,), "5", None, True, [5], Worth.number(5), Bases.of([5])):
            self.assertFalse(Term(5) == other)
            self.assertFalse(other == Term(5))

    def test_they_are_not_iterable(self):
        for work in (iter, list, tuple, sorted):
            self.assertRaises(TypeError, work, Term(1, 2))


class Whole(unittest.TestCase):

    def test_examples(self):
        term = Term(0, 1, 1, over=2)
        self.assertIs(term.is_whole(0, 1), True)
        half = Term(0, 1, over=2)
        self.assertEqual([half.is_whole(rest, 2) for rest in (-3, -2, -1, 0, 1, 2, 7)],
                         [False, True, False, True, False, True, False])
        self.assertIs(half.is_whole(0, 1), False)
        self.assertIs(half.is_whole(rest=4, period=6), True)
        self.assertIs(half.is_whole(0, 3), False)
        self.assertIs(Term(1, over=2).is_whole(0, 2), False)
        self.assertIs(Term(0, -1, 0, 1, over=6).is_whole(5, 7), True)
        self.assertIs(Term().is_whole(5, 7), True)
        self.assertIs(Term(3, 4).is_whole(-5, 9), True)

    def test_many(self):
        chance = random.Random(3)
        seen = {True: 0, False: 0}
        for _ in range(600):
            coefficients, over = some(chance)
            rest, period = chance.randrange(-20, 21), chance.randrange(1, 13)
            term = Term(*coefficients, over=over)
            whole = all(at(made(coefficients, over), base).denominator == 1
                        for base in range(rest, rest + 12 * period + 1, period))
            self.assertIs(term.is_whole(rest, period), whole)
            seen[whole] += 1
        self.assertGreater(min(seen.values()), 100)


class Sure(unittest.TestCase):

    def test_examples(self):
        for term, start in (
            (Term(0, 1, 1, over=2) - 4, 3), (Term(), 2), (Term(7), 2), (Term(-7), None), (Term(-7, 1), 7),
            (Term(-7, 2), 4), (Term(7, -1), None), (Term(1, 1), 2), (Term(-1, 1), 2), (Term(-(10 ** 9), 1), 10 ** 9),
            # (b - 1000) ** 2 + 1 is above 0 everywhere, but its sign row is from 1000 on only.
            (Term(1000001, -2000, 1), 1000),
            # (b - 3) * (b - 8), and the same with the other sign.
            (Term(24, -11, 1), 8), (Term(-24, 11, -1), None), (Term(0, 0, 0, -1, over=2), None),
            (Term(10 ** 9, -(10 ** 9), 1), 10 ** 9 - 1), (Term(1, -(10 ** 9), 0, 0, 0, 0, 0, 0, 0, 0, 1), 10),
        ):
            self.assertEqual(term.sure_from(), start, str(term))

    def test_many(self):
        chance = random.Random(4)
        for _ in range(400):
            coefficients, over = some(chance, 5, chance.choice((3, 50, 5000)))
            term, p = Term(*coefficients, over=over), made(coefficients, over)
            start = term.sure_from()

            def holds(base):
                return all(one >= 0 for one in put_in(p, [Fraction(base), Fraction(1)]))

            if start is None:
                self.assertFalse(holds(10 ** 6))
            else:
                self.assertTrue(start >= 2 and holds(start) and holds(start + 1) and holds(10 * start))
                self.assertFalse(start > 2 and holds(start - 1))


class Texts(unittest.TestCase):

    def test_texts(self):
        for term, text in (
            (Term(), "0"), (Term(7), "7"), (Term(1), "1"), (Term(-1), "-1"), (Term(0, 1), "b"), (Term(0, -1), "-b"),
            (Term(0, 3), "3 b"), (Term(0, 0, 1), "b^2"), (Term(0, 0, 3), "3 b^2"), (Term(0, 0, -1), "-b^2"),
            (Term(-7, 0, 3), "3 b^2 - 7"), (Term(1, -1, 1, -1), "-b^3 + b^2 - b + 1"), (Term(1, 1), "b + 1"),
            (Term(0, 0, 1, over=2), "b^2 / 2"), (Term(0, -3, over=2), "-3 b / 2"), (Term(-1, over=3), "-1 / 3"),
            (Term(-2, 1, 1, over=2), "(b^2 + b - 2) / 2"), (Term(-1, -1, over=4), "(-b - 1) / 4"),
            (-Term(0, 1, 1, over=2) * 4, "-2 b^2 - 2 b"), (Term(*[0] * 10, 12), "12 b^10"),
            (Term(0, 1, over=10), "b / 10"),
        ):
            self.assertEqual(str(term), text)


if __name__ == "__main__":
    unittest.main()
