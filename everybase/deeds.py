"""What deeds and tests come to in a told base, with numbers in the place of names."""

from math import gcd

from everybase.blocks import bare
from everybase.figures import (
    figure, first, greatest, joined, last, least, many, mirrored, number_of, root, total, turned, unlike,
)


def result(deed, given, base):
    """The result of a deed with these arguments, or None if its row stops."""
    if deed == "figures":
        return _written(given, base)
    if deed == "base":
        return base
    if deed in ("number", "let"):
        return given[0]
    if deed in ("figure", "first", "last"):
        return _part(deed, given[0], given[1], base)
    if len(given) == 1:
        return _of_one(deed, given[0], base)
    return _of_two(deed, given[0], given[1], base)


def holding(test, held, base):
    """Whether a test holds for what names hold, by a dict; names that are not in it hold 0."""
    ask, alike = bare(test)
    told = [held.get(name, 0) for name in ask.names]
    return holding_of(ask.word, told, base) == alike


def holding_of(word, told, base):
    """Whether a test with this word holds for these numbers."""
    match word:
        case "same":
            return told[0] == told[1]
        case "less":
            return told[0] < told[1]
        case "divides":
            return _divides(told[0], told[1])
        case "mirrored":
            return mirrored(told[0], base)
        case _:
            return unlike(told[0], base)


def _written(figures, base):
    """The number with these figures, or None if one is not below the base."""
    if all([one < base for one in figures]):
        return number_of(figures, base)
    return None


def _part(deed, k, x, base):
    """The result of a deed with a plain number and a name."""
    if deed == "figure":
        return figure(x, k, base)
    if deed == "first":
        return first(x, k, base)
    return last(x, k, base)


def _of_one(deed, x, base):
    """The result of a deed that takes the figures of one number together."""
    match deed:
        case "turned":
            return turned(x, base)
        case "least":
            return least(x, base)
        case "greatest":
            return greatest(x, base)
        case "sum":
            return total(x, base)
        case "many":
            return many(x, base)
        case _:
            return root(x, base)


def _of_two(deed, x, y, base):
    """The result of a deed with two numbers, or None if its row stops."""
    match deed:
        case "+":
            return x + y
        case "-":
            return x - y if x >= y else None
        case "*":
            return x * y
        case "//":
            return x // y if y > 0 else None
        case "rest":
            return x % y if y > 0 else None
        case "**":
            return _power(x, y)
        case "joined":
            return joined(x, y, base)
        case "common":
            return gcd(x, y)
        case _:
            return x if x < y else y


def _power(x, k):
    """The k-th power of x."""
    power = 1
    for _ in range(k):
        power = power * x
    return power


def _divides(x, y):
    """Whether y is a multiple of x: 0 has the multiple 0 alone."""
    if x == 0:
        return y == 0
    return y % x == 0
