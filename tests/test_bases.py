"""[19], [20]: sets of bases, beside sets of Python that hold those below an end."""

import itertools
import random
import unittest

from everybase.bases import Bases
from everybase.errors import InvalidBase, NoPlace
from everybase.terms import Term
from everybase.worths import Worth
from tests.samples import NO_BASES, fields

END = 240


def members(bases, end=END):
    return {base for base in range(2, end) if base in bases}


def parts(bases):
    return bases.start, bases.period, bases.rests, bases.lone


def told(bases, end=END):
    """The members that the four attributes tell."""
    later = {base for base in range(bases.start, end) if base % bases.period in bases.rests}
    return {base for base in bases.lone if base < end} | later


def least(held, end=END, reach=60):
    """The four attributes, found by trying: the set repeats with a period below `reach` from some base on."""
    for period in range(1, reach):
        if all((base in held) == (base + period in held) for base in range(end - 2 * reach, end - period)):
            break
    start = end - 2 * reach
    while start > 2 and (start - 1 in held) == (start - 1 + period in held):
        start -= 1
    rests = tuple(rest for rest in range(period) if any(b % period == rest for b in held if b >= end - 2 * reach))
    return start, period, rests, tuple(sorted(base for base in held if base < start))


def some(chance):
    found = Bases.none()
    for _ in range(chance.randrange(1, 4)):
        kind = chance.randrange(5)
        if kind == 0:
            one = Bases.of([chance.randrange(2, 40) for _ in range(chance.randrange(5))])
        elif kind == 1:
            one = Bases.upward(chance.randrange(-3, 40))
        else:
            one = Bases.rest(chance.choice((1, 2, 3, 4, 6)), chance.randrange(-9, 10))
        found = chance.choice((found | one, found ^ one, one - found, ~found & one, found & one | one))
    return found


class Making(unittest.TestCase):

    def test_class_methods(self):
        for bases, text in (
            (Bases.none(), "none"), (Bases.every(), "from 2: 0 of 1"), (Bases.of([]), "none"), (Bases.of([2]), "2"),
            (Bases.of((5, 3, 5)), "3 5"), (Bases.of([2, 3, 4]), "2 3 4"), (Bases.rest(1, 0), "from 2: 0 of 1"),
            (Bases.rest(1, -7), "from 2: 0 of 1"), (Bases.rest(2, 1), "from 2: 1 of 2"),
            (Bases.rest(4, 11), "from 2: 3 of 4"),
            (Bases.rest(4, -1), "from 2: 3 of 4"), (Bases.rest(100, -1), "from 2: 99 of 100"),
            (Bases.upward(2), "from 2: 0 of 1"),
            (Bases.upward(-5), "from 2: 0 of 1"), (Bases.upward(1), "from 2: 0 of 1"),
            (Bases.upward(9), "from 9: 0 of 1"),
            (Bases.of([10 ** 30]), str(10 ** 30)), (Bases.upward(10 ** 30), f"from {10 ** 30}: 0 of 1"),
        ):
            self.assertEqual(str(bases), text)

    def test_by_the_names_of_the_arguments(self):
        self.assertEqual(Bases.of(bases=[4]), Bases.of([4]))
        self.assertEqual(Bases.rest(rest=5, period=3), Bases.rest(3, 2))
        self.assertEqual(Bases.upward(first=7), Bases.upward(7))
        self.assertEqual(Bases.upward(7).below(number=9), 2)
        self.assertEqual(Bases.upward(7).nth(k=1), 8)

    def test_what_is_no_base(self):
        for value in NO_BASES:
            for wrong in ([value], (value, 2), [2, 3, value, 4]):
                self.assertRaises(InvalidBase, Bases.of, wrong)

    def test_the_list_may_change_later(self):
        given = [3, 5]
        bases = Bases.of(given)
        given.append(7)
        self.assertEqual(bases.lone, (3, 5))


class Attributes(unittest.TestCase):

    def test_sets_that_end(self):
        self.assertEqual(parts(Bases.none()), (2, 1, (), ()))
        self.assertEqual(parts(Bases.of([7, 3])), (8, 1, (), (3, 7)))
        self.assertEqual(parts(Bases.of([10 ** 30, 2])), (10 ** 30 + 1, 1, (), (2, 10 ** 30)))
        self.assertEqual(parts(Bases.upward(5) - Bases.upward(7)), (7, 1, (), (5, 6)))
        self.assertEqual(parts(Bases.upward(5) - Bases.upward(5)), (2, 1, (), ()))

    def test_least_periods_and_then_least_starts(self):
        self.assertEqual(parts(Bases.rest(4, 1) | Bases.rest(4, 3)), (2, 2, (1,), ()))
        self.assertEqual(parts(Bases.rest(2, 0) | Bases.rest(2, 1)), (2, 1, (0,), ()))
        self.assertEqual(parts(Bases.upward(9) | Bases.of([8, 7, 5])), (7, 1, (0,), (5,)))
        self.assertEqual(parts(Bases.rest(3, 0) - Bases.of([3])), (4, 3, (0,), ()))
        self.assertEqual(parts(Bases.rest(3, 0) & Bases.upward(10)), (10, 3, (0,), ()))
        self.assertEqual(parts(Bases.rest(3, 0) & Bases.upward(9)), (7, 3, (0,), ()))
        self.assertEqual(parts(Bases.rest(6, 1) | Bases.rest(6, 3) | Bases.of([2])), (3, 6, (1, 3), (2,)))
        self.assertEqual(parts(Bases.rest(360, 7) | Bases.rest(27, 1))[1], 1080)
        self.assertEqual(parts(Bases.rest(2, 1) ^ Bases.rest(3, 0)), (2, 6, (0, 1, 5), ()))

    def test_they_are_set_and_tuples(self):
        for bases in (Bases.none(), Bases.every(), Bases.of([5]), Bases.rest(3, 1) | Bases.of([5])):
            self.assertEqual((type(bases.lone), type(bases.rests)), (tuple, tuple))

    def test_many(self):
        chance = random.Random(1)
        for _ in range(400):
            bases = some(chance)
            held = members(bases)
            self.assertEqual(told(bases), held)
            self.assertEqual(parts(bases), least(held))


class Operators(unittest.TestCase):

    def test_many(self):
        chance = random.Random(2)
        for _ in range(300):
            one, other = some(chance), some(chance)
            a, b = members(one), members(other)
            for bases, held in (
                (one & other, a & b), (one | other, a | b), (one - other, a - b), (one ^ other, a ^ b),
                (~one, set(range(2, END)) - a),
            ):
                self.assertEqual(members(bases), held)
                self.assertEqual(parts(bases), least(held))
            self.assertEqual((one <= other, one < other), (a <= b, a < b))
            self.assertEqual((one >= other, one > other), (a >= b, a > b))
            self.assertEqual((one == other, one != other), (a == b, a != b))
            self.assertIs(bool(one), bool(a))

    def test_the_answers_are_bools(self):
        one, other = Bases.rest(2, 1), Bases.every()
        for answer in (one <= other, one < other, one >= other, one > other, one == other, 3 in one, bool(one)):
            self.assertIs(type(answer), bool)

    def test_in_place_operators_return_new_ones(self):
        kept = bases = Bases.rest(3, 1) | Bases.of([2])
        before = fields(kept)
        bases &= Bases.upward(5)
        self.assertEqual(str(bases), "from 5: 1 of 3")
        bases |= Bases.of([3])
        self.assertEqual(str(bases), "3, from 5: 1 of 3")
        bases -= Bases.of([7])
        self.assertEqual(str(bases), "3, from 8: 1 of 3")
        bases ^= Bases.every()
        self.assertEqual(bases, ~(Bases.rest(3, 1) - Bases.of([4, 7]) | Bases.of([3])))
        self.assertEqual(fields(kept), before)

    def test_sets_that_are_equal_though_made_in_other_ways(self):
        for one, other in (
            (Bases.rest(4, 1) | Bases.rest(4, 3), ~Bases.rest(2, 0)), (Bases.of([2, 3]), ~Bases.upward(4)),
            (Bases.upward(4), Bases.every() - Bases.of((3, 2))), (Bases.none(), Bases.rest(6, 1) & Bases.rest(4, 2)),
            (Bases.rest(12, 7), Bases.rest(4, 3) & Bases.rest(3, 1)), (Bases.rest(5, -1), Bases.rest(5, 14)),
        ):
            self.assertTrue(one == other)
            self.assertFalse(one != other)
            self.assertEqual(str(one), str(other))
            self.assertTrue(one <= other and one >= other and not one < other and not one > other)

    def test_near_the_limits(self):
        one = Bases.rest(100, 17) & Bases.upward(5000) | Bases.of(list(range(4000, 4999, 7)))
        other = Bases.rest(99, 5) & Bases.upward(4990)
        self.assertEqual((one | other).period, 9900)
        self.assertEqual(members(one ^ other, 9000), members(one, 9000) ^ members(other, 9000))
        self.assertEqual((one & other).lowest, min(members(one, 20000) & members(other, 20000)))

    def test_bases_far_apart(self):
        far = Bases.of([10 ** 30, 5])
        self.assertEqual((far & Bases.rest(2, 0)).lone, (10 ** 30,))
        self.assertEqual((far - Bases.of([5])).lone, (10 ** 30,))
        self.assertEqual(str(far & Bases.upward(10 ** 29)), str(10 ** 30))
        self.assertTrue(far <= Bases.every())
        self.assertEqual((Bases.of([5]) | Bases.of([10 ** 30])), far)
        self.assertEqual((Bases.of([5]) ^ Bases.of([10 ** 30])), far)
        self.assertEqual((Bases.of([5]) - Bases.upward(10 ** 30)), Bases.of([5]))
        self.assertEqual(Bases.upward(10 ** 30) | Bases.of([5]), Bases.of([5]) | Bases.upward(10 ** 30))
        self.assertEqual(str(Bases.upward(10 ** 30) | Bases.of([5])), f"5, from {10 ** 30}: 0 of 1")
        self.assertFalse(Bases.upward(10 ** 30) <= Bases.of([5]))
        self.assertTrue(10 ** 30 in far and 10 ** 30 - 1 not in far)
        self.assertEqual((far.below(10 ** 30), far.below(10 ** 30 + 1), far.nth(1)), (1, 2, 10 ** 30))

    def test_equal_to_nothing_of_another_class(self):
        for other in (None, 5, (5,), [5], "5", {5}, True, Term(5), Worth.number(5)):
            self.assertFalse(Bases.of([5]) == other)
            self.assertFalse(other == Bases.of([5]))

    def test_they_are_not_iterable(self):
        for work in (iter, list, tuple, sorted, set):
            self.assertRaises(TypeError, work, Bases.of([5]))


class Looking(unittest.TestCase):

    def test_any_value_may_be_looked_for(self):
        for value in NO_BASES:
            for bases in (Bases.every(), Bases.none(), Bases.of([2, 10]), Bases.rest(2, 0)):
                self.assertIs(value in bases, False)
        self.assertIs(2 in Bases.every(), True)
        self.assertIs(10 ** 30 in Bases.rest(10, 0), True)
        self.assertIs(10 ** 30 in Bases.rest(10, 1), False)

    def test_lowest_and_size(self):
        for bases, lowest, size in (
            (Bases.none(), None, 0), (Bases.every(), 2, None), (Bases.of([9, 4]), 4, 2), (Bases.rest(7, 1), 8, None),
            (Bases.rest(7, 0), 7, None), (Bases.upward(30) | Bases.of([3]), 3, None), (Bases.rest(360, 1), 361, None),
        ):
            self.assertEqual((bases.lowest, bases.size), (lowest, size))

    def test_below(self):
        for bases in (Bases.none(), Bases.every(), Bases.of([5, 9]), Bases.rest(3, 2) - Bases.of([5]), Bases.upward(6)):
            for number in list(range(-3, 60)) + [200]:
                self.assertEqual(bases.below(number), len(members(bases, max(2, number))), (str(bases), number))
        self.assertEqual(Bases.rest(7, 3).below(7 * 10 ** 30), 10 ** 30)
        self.assertEqual(Bases.every().below(-(10 ** 30)), 0)
        self.assertEqual(Bases.of([5]).below(10 ** 40), 1)

    def test_nth(self):
        for bases in (Bases.every(), Bases.rest(6, 1) | Bases.rest(6, 2) | Bases.of([3, 4]),
                      Bases.upward(9) | Bases.of([2]),
                      Bases.rest(5, 0) - Bases.of([5])):
            for k, base in enumerate(itertools.islice(sorted(members(bases)), 40)):
                self.assertEqual(bases.nth(k), base)
            self.assertEqual(bases.below(bases.nth(10 ** 20)), 10 ** 20)
        self.assertEqual([Bases.of([5, 9]).nth(k) for k in (0, 1)], [5, 9])

    def test_no_place(self):
        for bases, places in (
            (Bases.none(), (0, 1, -1, 10 ** 30, -(10 ** 30))), (Bases.of([5, 9]), (2, 3, -1, -2, 10 ** 30)),
            (Bases.every(), (-1, -2, -(10 ** 30))), (Bases.upward(5) | Bases.of([3]), (-1,)),
        ):
            for k in places:
                with self.assertRaises(NoPlace) as caught:
                    bases.nth(k)
                self.assertIs(caught.exception.at, k)
                self.assertIsInstance(caught.exception, IndexError)

    def test_texts(self):
        for bases, text in (
            (Bases.of([2, 6]) | Bases.rest(4, 1) | Bases.rest(4, 3), "2 3 5 6, from 7: 1 of 2"),
            (~Bases.of([3]), "2, from 4: 0 of 1"), (Bases.rest(5, 1) | Bases.rest(5, 4), "from 2: 1 4 of 5"),
            (Bases.of([3, 10]), "3 10"), (Bases.none(), "none"),
        ):
            self.assertEqual(str(bases), text)


if __name__ == "__main__":
    unittest.main()
