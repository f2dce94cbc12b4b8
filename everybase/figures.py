"""The figures of numbers in a told base.

Every function raises InvalidBase if the base is none, then InvalidNumber if a
number is none. `figures_of` looks at both, so the others begin with it.
"""

from everybase.errors import InvalidBase, InvalidNumber, NoFigure
from everybase.kinds import is_base, is_integer, is_number


def figures_of(number, base):
    """The tuple of the figures of a number, the greatest place first."""
    if not is_base(base):
        raise InvalidBase()
    if not is_number(number):
        raise InvalidNumber()
    behind = [number % base]
    left = number // base
    while left > 0:
        behind.append(left % base)
        left = left // base
    return tuple(behind[::-1])


def number_of(figures, base):
    """The number with these figures, which may have 0 in front."""
    if not is_base(base):
        raise InvalidBase()
    if not isinstance(figures, (list, tuple)) or len(figures) == 0:
        raise NoFigure(0)
    for at, one in enumerate(figures):
        if not is_integer(one) or one < 0 or one >= base:
            raise NoFigure(at)
    return _value(figures, base)


def turned(number, base):
    """The number with the figures in reverse order."""
    return _value(figures_of(number, base)[::-1], base)


def least(number, base):
    """The number with the figures ascending."""
    return _value(sorted([int(one) for one in figures_of(number, base)]), base)


def greatest(number, base):
    """The number with the figures descending."""
    return _value(sorted([int(one) for one in figures_of(number, base)], reverse=True), base)


def total(number, base):
    """The sum of the figures."""
    return sum(figures_of(number, base))


def many(number, base):
    """How many figures there are."""
    return len(figures_of(number, base))


def root(number, base):
    """The figure that is left if the sum is taken until there is one figure."""
    left = total(number, base)
    while left >= base:
        left = total(left, base)
    return left


def figure(number, k, base):
    """The k-th figure from behind, 0 the last one; 0 if there is none."""
    figures = figures_of(number, base)
    if k >= len(figures):
        return 0
    return figures[len(figures) - 1 - k]


def first(number, k, base):
    """The number of the first k figures (of all, if there are fewer)."""
    return _value(figures_of(number, base)[:k], base)


def last(number, k, base):
    """The number of the last k figures (of all, if there are fewer)."""
    figures = figures_of(number, base)
    return _value(figures[max(0, len(figures) - k):], base)


def joined(number, other, base):
    """The number with the figures of the one and behind them those of the other."""
    return _value(figures_of(number, base) + figures_of(other, base), base)


def mirrored(number, base):
    """Whether the figures are alike from both ends."""
    figures = figures_of(number, base)
    return figures == figures[::-1]


def unlike(number, base):
    """Whether no figure stands twice."""
    figures = figures_of(number, base)
    return len(set(figures)) == len(figures)


def _value(figures, base):
    """The number with these figures; 0 if there are none."""
    number = 0
    for one in figures:
        number = number * base + one
    return number
