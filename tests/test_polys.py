"""Polynomials as tuples, beside lists of fractions."""

import random
import unittest
from fractions import Fraction
from math import gcd

from everybase import polys
from everybase.parts import shared
from everybase.periods import least_period
from tests.reference_papers import add, at, mul, put_in, sub, trim


def told(poly):
    return trim(Fraction(one, poly[0]) for one in poly[1:])


def some(chance, degree=3, size=9):
    coefficients = [chance.randrange(-size, size + 1) for _ in range(chance.randrange(degree + 2))]
    return polys.reduced(chance.choice((1, 2, 3, 6)), coefficients)


class Polys(unittest.TestCase):

    def assert_lowest(self, poly):
        self.assertGreaterEqual(poly[0], 1)
        self.assertTrue(poly == (1,) or poly[-1] != 0 and gcd(*poly) == 1, poly)

    def test_reckoning(self):
        chance = random.Random(1)
        for _ in range(500):
            x, y, k = some(chance), some(chance), chance.randrange(-4, 9)
            for found, right in (
                (polys.plus(x, y), add(told(x), told(y))), (polys.minus(x, y), sub(told(x), told(y))),
                (polys.times(x, y), mul(told(x), told(y))), (polys.negative(x), sub([], told(x))),
                (polys.less_one(x), sub(told(x), [1])), (polys.over_all(x, 6), mul(told(x), [Fraction(1, 6)])),
            ):
                self.assert_lowest(found)
                self.assertEqual(told(found), right)
            number = at(told(x), k)
            self.assertEqual(polys.value(x, k), number if number.denominator == 1 else None)
            self.assertEqual(told(polys.along(x, k, 3)), put_in(told(x), [k, 3]))

    def test_division_with_what_is_left_over(self):
        chance = random.Random(2)
        signs = set()
        for _ in range(500):
            x, y = some(chance, 4), some(chance, 2)
            if y == polys.ZERO:
                continue
            quotient, left = polys.parted(x, y)
            self.assert_lowest(quotient)
            self.assert_lowest(left)
            self.assertEqual(add(mul(told(quotient), told(y)), told(left)), told(x))
            self.assertLess(len(left), len(y))
            signs.add((y[-1] > 0, len(x) - len(y)))
        self.assertGreater(len(signs), 8)

    def test_left_over_is_what_repeats(self):
        chance = random.Random(3)
        for _ in range(300):
            x, rest, period = some(chance), chance.randrange(5), chance.randrange(1, 7)
            row = [sum(one * (rest + period * t) ** k for k, one in enumerate(x[1:])) % x[0] for t in range(12)]
            self.assertEqual(polys.leftovers(x, rest, period), tuple(row[:least_period(row)]))

    def test_greatest_common_divisors(self):
        for x, y in (((1, 0, 0, 1), (1, 0, 1)), ((1, 0, 2, 2), (1, 2, 4, 2)), ((1, 6, 0, 6), (1, 4)),
                     ((1, 0, 5, 5), (2, 0, 1, 1))):
            part = (0, 60)
            z, (p, q, _, _, _), start = shared(x, y, part)
            for base in (60, 120, 240, 600):
                self.assertGreaterEqual(base, start)
                self.assertEqual(polys.value(z, base), gcd(polys.value(x, base), polys.value(y, base)))
            self.assertEqual((polys.times(z, p), polys.times(z, q)), (x, y))


class Periods(unittest.TestCase):

    def test_least_period(self):
        chance = random.Random(4)
        for _ in range(300):
            row = [chance.randrange(2) for _ in range(chance.randrange(1, 7))] * chance.randrange(1, 7)
            least = next(k for k in range(1, len(row) + 1) if len(row) % k == 0 and row == row[:k] * (len(row) // k))
            self.assertEqual(least_period(row), least)
        self.assertEqual(least_period(("a",) * 97), 1)
        self.assertEqual(least_period([None, 1] * 2310), 2)


if __name__ == "__main__":
    unittest.main()
