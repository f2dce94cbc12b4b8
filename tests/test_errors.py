"""[5]: the errors."""

import unittest

from everybase import errors
from tests.samples import NO_INTEGERS

BARE = ("InvalidBase", "InvalidNumber", "NotWhole", "InvalidCommand")
WITH_ONE = {
    "NoFigure": "at", "InvalidRow": "word", "InvalidText": "at",
    "Stopped": "at", "InvalidTerm": "word", "InvalidWorth": "word",
}
OTHERS = {"NoRow": ("at", IndexError), "NoPlace": ("at", IndexError), "NoName": ("name", KeyError)}


def every_name():
    return list(BARE) + list(WITH_ONE) + list(OTHERS)


class Families(unittest.TestCase):

    def test_figure_error_is_a_value_error(self):
        self.assertEqual(errors.FigureError.__bases__, (ValueError,))

    def test_there_are_ten_direct_subclasses(self):
        names = list(BARE) + list(WITH_ONE)
        self.assertEqual(len(names), 10)
        for name in names:
            self.assertEqual(getattr(errors, name).__bases__, (errors.FigureError,), name)
        self.assertEqual(len(errors.FigureError.__subclasses__()), 10)

    def test_no_row_no_place_and_no_name_are_no_figure_errors(self):
        for name, (_, base) in OTHERS.items():
            self.assertEqual(getattr(errors, name).__bases__, (base,), name)
            self.assertFalse(issubclass(getattr(errors, name), ValueError), name)

    def test_none_is_derived_from_another_one(self):
        for one in every_name():
            for other in every_name():
                derived = issubclass(getattr(errors, one), getattr(errors, other))
                self.assertEqual(derived, one == other, (one, other))

    def test_classes_are_defined_in_this_module(self):
        for name in every_name() + ["FigureError"]:
            self.assertEqual(getattr(errors, name).__module__, "everybase.errors", name)
            self.assertEqual(getattr(errors, name).__name__, name)


class Attributes(unittest.TestCase):

    def with_one(self):
        found = dict(WITH_ONE)
        for name, (word, _) in OTHERS.items():
            found[name] = word
        return [(getattr(errors, name), word) for name, word in found.items()]

    def test_the_bare_ones_are_made_of_nothing(self):
        for name in BARE:
            error = getattr(errors, name)()
            self.assertEqual(vars(error), {}, name)
            self.assertIsInstance(str(error), str)

    def test_the_very_argument_is_kept(self):
        values = NO_INTEGERS + (0, 7, -3, 10 ** 60, "rows", ["a", ["b"]])
        for kind, word in self.with_one():
            for value in values:
                self.assertIs(getattr(kind(value), word), value)
                self.assertIs(getattr(kind(**{word: value}), word), value)
                self.assertEqual(list(vars(kind(value))), [word])

    def test_a_list_is_not_copied(self):
        for kind, word in self.with_one():
            value = [1]
            error = kind(value)
            value.append(2)
            self.assertEqual(getattr(error, word), [1, 2])

    def test_the_argument_is_needed_and_no_other_one_is_taken(self):
        for kind, word in self.with_one():
            for wrong in ((), (1, 2)):
                with self.assertRaises(TypeError):
                    kind(*wrong)
            other = {"at": "word", "word": "at", "name": "at"}[word]
            with self.assertRaises(TypeError):
                kind(**{other: 1})

    def test_errors_are_not_iterable(self):
        made = [kind([1]) for kind, _ in self.with_one()] + [getattr(errors, name)() for name in BARE]
        for error in made:
            with self.assertRaises(TypeError):
                iter(error)

    def test_an_error_that_is_raised_keeps_it(self):
        for kind, word in self.with_one():
            with self.assertRaises(kind) as caught:
                raise kind(11)
            self.assertEqual(getattr(caught.exception, word), 11)


if __name__ == "__main__":
    unittest.main()
