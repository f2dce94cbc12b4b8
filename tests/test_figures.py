"""[6], and of [1] to [3] what these functions keep."""

import inspect
import unittest

from everybase import figures
from everybase.errors import InvalidBase, InvalidNumber, NoFigure
from tests.samples import NO_BASES, NO_INTEGERS, NO_NUMBERS, NO_SEQUENCES

# Each function with arguments that are right, by their names in their order.
RIGHT = {
    "figures_of": (("number", 12), ("base", 10)),
    "number_of": (("figures", (1, 2)), ("base", 10)),
    "turned": (("number", 12), ("base", 10)),
    "least": (("number", 12), ("base", 10)),
    "greatest": (("number", 12), ("base", 10)),
    "total": (("number", 12), ("base", 10)),
    "many": (("number", 12), ("base", 10)),
    "root": (("number", 12), ("base", 10)),
    "figure": (("number", 12), ("k", 1), ("base", 10)),
    "first": (("number", 12), ("k", 1), ("base", 10)),
    "last": (("number", 12), ("k", 1), ("base", 10)),
    "joined": (("number", 12), ("other", 3), ("base", 10)),
    "mirrored": (("number", 12), ("base", 10)),
    "unlike": (("number", 12), ("base", 10)),
}
GREAT_BASE = 10 ** 30
GREAT_NUMBER = 10 ** 60
BASES = (2, 3, 7, 10, 16, 36, 1000, GREAT_BASE - 1, GREAT_BASE)
NUMBERS = tuple(range(60)) + (99, 100, 121, 1000, 1089, 12345, 98765, 10 ** 9 + 7, 2 ** 100, GREAT_NUMBER - 1,
                              GREAT_NUMBER)


def written(number, base):
    """The figures in another way: from the greatest power of the base down."""
    power = 1
    while power * base <= number:
        power *= base
    found = []
    while power:
        found.append(number // power)
        number -= found[-1] * power
        power //= base
    return tuple(found)


def worth(some, base):
    """The number with these figures, as a sum of powers."""
    return sum(one * base ** at for at, one in enumerate(reversed(some)))


class Arguments(unittest.TestCase):

    def call(self, name, **changed):
        given = dict(RIGHT[name])
        given.update(changed)
        return getattr(figures, name)(**given)

    def test_the_fourteen_functions_have_these_parameters(self):
        self.assertEqual(len(RIGHT), 14)
        for name, given in RIGHT.items():
            told = inspect.signature(getattr(figures, name))
            self.assertEqual(list(told.parameters), [word for word, _ in given], name)
            self.assertEqual(getattr(figures, name).__module__, "everybase.figures", name)

    def test_by_position_and_by_name_is_the_same(self):
        for name, given in RIGHT.items():
            placed = getattr(figures, name)(*[value for _, value in given])
            self.assertEqual(self.call(name), placed, name)
            self.assertEqual(self.call(name), self.call(name), name)

    def test_no_base(self):
        for name in RIGHT:
            for wrong in NO_BASES:
                with self.assertRaises(InvalidBase, msg=(name, wrong)):
                    self.call(name, base=wrong)

    def test_no_number(self):
        for name in RIGHT:
            for word in ("number", "other"):
                if word in dict(RIGHT[name]):
                    for wrong in NO_NUMBERS:
                        with self.assertRaises(InvalidNumber, msg=(name, word, wrong)):
                            self.call(name, **{word: wrong})

    def test_the_base_is_looked_at_first(self):
        for name in RIGHT:
            word = RIGHT[name][0][0]
            for wrong in (-1, True, None, "12", (), [20], (-1,)):
                for base in (1, 0, -10, True, None, "10", [10], (2,)):
                    with self.assertRaises(InvalidBase, msg=(name, wrong, base)):
                        self.call(name, **{word: wrong, "base": base})
        with self.assertRaises(InvalidBase):
            figures.joined(5, -1, 1)
        with self.assertRaises(InvalidNumber):
            figures.joined(None, None, 2)

    def test_a_base_of_two_and_the_number_0_are_right(self):
        for name in RIGHT:
            if name == "number_of":
                self.assertEqual(figures.number_of([1, 0], 2), 2)
            else:
                self.call(name, number=0, base=2)


class There(unittest.TestCase):

    def test_figures_of_the_document(self):
        self.assertEqual(figures.figures_of(121, 10), (1, 2, 1))
        self.assertEqual(figures.figures_of(9, 2), (1, 0, 0, 1))
        self.assertEqual(figures.figures_of(0, 10), (0,))
        self.assertEqual(figures.figures_of(0, 2), (0,))
        self.assertEqual(figures.figures_of(10, 10), (1, 0))
        self.assertEqual(figures.figures_of(9, 10), (9,))
        self.assertEqual(figures.figures_of(35, 36), (35,))
        self.assertEqual(figures.figures_of(GREAT_NUMBER, GREAT_BASE), (1, 0, 0))
        self.assertEqual(figures.figures_of(GREAT_NUMBER - 1, GREAT_BASE), (GREAT_BASE - 1, GREAT_BASE - 1))
        self.assertEqual(figures.figures_of(GREAT_NUMBER, 10), (1,) + (0,) * 60)

    def test_figures_and_back(self):
        for base in BASES:
            for number in NUMBERS:
                found = figures.figures_of(number, base)
                self.assertIs(type(found), tuple)
                self.assertEqual(found, written(number, base), (number, base))
                self.assertEqual(figures.number_of(found, base), number)
                self.assertEqual(figures.number_of(list(found), base), number)
                self.assertTrue(number == 0 or found[0] > 0)

    def test_a_number_with_2000_figures(self):
        number = 7 ** 2000 + 3
        self.assertEqual(figures.figures_of(number, 7), (1,) + (0,) * 1999 + (3,))
        self.assertEqual(figures.turned(number, 7), 3 * 7 ** 2000 + 1)


class NumberOf(unittest.TestCase):

    def test_noughts_in_front(self):
        self.assertEqual(figures.number_of((0, 0, 1, 2), 10), 12)
        self.assertEqual(figures.number_of([0], 2), 0)
        self.assertEqual(figures.number_of([0] * 300, 2), 0)
        self.assertEqual(figures.number_of([0, 1, 0], GREAT_BASE), GREAT_BASE)

    def test_three_hundred_figures(self):
        self.assertEqual(figures.number_of([9] * 300, 10), 10 ** 300 - 1)

    def test_the_list_is_not_changed(self):
        some = [0, 1, 2]
        figures.number_of(some, 10)
        self.assertEqual(some, [0, 1, 2])

    def assert_at(self, at, some, base):
        with self.assertRaises(NoFigure, msg=(some, base)) as caught:
            figures.number_of(some, base)
        self.assertEqual(caught.exception.at, at, (some, base))
        self.assertIs(type(caught.exception.at), int)

    def test_the_place_of_the_first_that_is_none(self):
        self.assert_at(0, [2], 2)
        self.assert_at(1, (1, 2, 1), 2)
        self.assert_at(2, [1, 0, 2, 3], 2)
        self.assert_at(3, (9, 9, 9, 10), 10)
        self.assert_at(1, [1, -1, 20], 10)
        self.assert_at(2, [0, 0, GREAT_BASE], GREAT_BASE)
        self.assert_at(299, [0] * 299 + [10], 10)
        self.assertEqual(figures.number_of([1, 0, 1], 2), 5)
        self.assertEqual(figures.number_of([9, 35], 36), 9 * 36 + 35)

    def test_any_value_in_it(self):
        for wrong in NO_INTEGERS:
            self.assert_at(0, [wrong], 10)
            self.assert_at(2, (1, 0, wrong, wrong, 99), 10)

    def test_what_holds_no_figures(self):
        for wrong in NO_SEQUENCES + ([], ()):
            self.assert_at(0, wrong, 10)

    def test_behind_the_base(self):
        for some in ([], (), [99], None, "12", [True]):
            with self.assertRaises(InvalidBase):
                figures.number_of(some, 1)


class Deeds(unittest.TestCase):

    def each(self):
        for base in BASES:
            for number in NUMBERS:
                yield number, base, written(number, base)

    def test_turned_least_greatest(self):
        for number, base, some in self.each():
            self.assertEqual(figures.turned(number, base), worth(some[::-1], base))
            self.assertEqual(figures.least(number, base), worth(sorted(some), base))
            self.assertEqual(figures.greatest(number, base), worth(sorted(some)[::-1], base))

    def test_noughts_fall_away(self):
        self.assertEqual(figures.turned(120, 10), 21)
        self.assertEqual(figures.turned(0, 10), 0)
        self.assertEqual(figures.turned(100, 10), 1)
        self.assertEqual(figures.least(3010, 10), 13)
        self.assertEqual(figures.greatest(1030, 10), 3100)
        self.assertEqual(figures.least(0, 2), 0)
        self.assertEqual(figures.greatest(0, 2), 0)
        self.assertEqual(figures.greatest(121, 10), 211)
        self.assertEqual(figures.least(10 * 12 + 2, 12), 2 * 12 + 10)

    def test_total_and_many(self):
        for number, base, some in self.each():
            self.assertEqual(figures.total(number, base), sum(some))
            self.assertEqual(figures.many(number, base), len(some))
        self.assertEqual((figures.total(0, 10), figures.many(0, 10)), (0, 1))
        self.assertEqual((figures.total(999, 10), figures.many(999, 10)), (27, 3))
        self.assertEqual(figures.many(GREAT_NUMBER, 2), 200)

    def test_root(self):
        for number, base, _ in self.each():
            expected = 0 if number == 0 else 1 + (number - 1) % (base - 1)
            self.assertEqual(figures.root(number, base), expected, (number, base))
        self.assertEqual(figures.root(99999, 10), 9)
        self.assertEqual(figures.root(38, 10), 2)
        self.assertEqual(figures.root(10, 10), 1)
        self.assertEqual(figures.root(7, 10), 7)
        self.assertEqual(figures.root(0, 2), 0)
        self.assertEqual(figures.root(7, 2), 1)

    def test_figure(self):
        for number, base, some in self.each():
            for k in range(len(some)):
                self.assertEqual(figures.figure(number, k, base), some[-1 - k])
            for k in (len(some), len(some) + 1, 300):
                self.assertEqual(figures.figure(number, k, base), 0)
        self.assertEqual([figures.figure(123, k, 10) for k in range(5)], [3, 2, 1, 0, 0])
        self.assertEqual(figures.figure(0, 0, 10), 0)

    def test_first_and_last(self):
        for number, base, some in self.each():
            for k in (0, 1, 2, 3, len(some) - 1, len(some), len(some) + 1, 300):
                self.assertEqual(figures.first(number, k, base), worth(some[:k], base))
                self.assertEqual(figures.last(number, k, base), number % base ** k)
        self.assertEqual([figures.first(123, k, 10) for k in range(5)], [0, 1, 12, 123, 123])
        self.assertEqual([figures.last(123, k, 10) for k in range(5)], [0, 3, 23, 123, 123])
        self.assertEqual(figures.last(1005, 2, 10), 5)
        self.assertEqual(figures.first(0, 3, 10), 0)

    def test_a_k_far_beyond(self):
        k = 10 ** 30
        self.assertEqual(figures.figure(123, k, 10), 0)
        self.assertEqual(figures.first(123, k, 10), 123)
        self.assertEqual(figures.last(123, k, 10), 123)

    def test_joined(self):
        self.assertEqual(figures.joined(5, 0, 10), 50)
        self.assertEqual(figures.joined(0, 5, 10), 5)
        self.assertEqual(figures.joined(0, 0, 10), 0)
        self.assertEqual(figures.joined(12, 34, 10), 1234)
        self.assertEqual(figures.joined(1, 2, 2), 6)
        self.assertEqual(figures.joined(GREAT_NUMBER, GREAT_NUMBER, 10), 10 ** 121 + 10 ** 60)
        for number, base, some in self.each():
            for other in (0, 1, base - 1, base, 12345, GREAT_NUMBER):
                expected = worth(some + written(other, base), base)
                self.assertEqual(figures.joined(number, other, base), expected)

    def test_mirrored_and_unlike(self):
        for number, base, some in self.each():
            self.assertIs(figures.mirrored(number, base), list(some) == list(reversed(some)))
            self.assertIs(figures.unlike(number, base), all(some.count(one) == 1 for one in some))
        for number, base, mirrored, unlike in (
            (0, 10, True, True), (7, 10, True, True), (10, 10, False, True), (11, 10, True, False),
            (121, 10, True, False), (122, 10, False, False), (1221, 10, True, False), (1231, 10, False, False),
            (9, 2, True, False), (1023456789, 10, False, True), (10234567890, 10, False, False),
        ):
            self.assertIs(figures.mirrored(number, base), mirrored, (number, base))
            self.assertIs(figures.unlike(number, base), unlike, (number, base))

    def test_results_are_integers(self):
        for name in ("turned", "least", "greatest", "total", "many", "root"):
            self.assertIs(type(getattr(figures, name)(1089, 10)), int, name)


if __name__ == "__main__":
    unittest.main()
