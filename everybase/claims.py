"""Whether what a paper tells of a deed or a test is right.

A span tells the bases that are meant; the terms are polynomials as in `polys`,
and what stands behind them in a step is any value.
"""

from math import gcd

from everybase.kinds import is_integer
from everybase.parts import of_figures, written
from everybase.polys import BASE, ONE, ZERO, along, less_one, minus, plain, plus, power, times, value
from everybase.spans import terms_told
from everybase.ways import SPELT


def right_stop(span, deed, given):
    """Whether the row of a deed surely stops."""
    if deed == "-":
        return span.under(given[0], given[1])
    return deed in ("//", "rest") and given[1] == ZERO


def right_put(span, deed, given, z, more):
    """Whether z is the result of a deed, by what stands behind it."""
    if deed in ("//", "rest"):
        return _right_quotient(span, deed, given, z, more)
    if deed in SPELT:
        k = given[0] if len(given) == 2 else 0
        return _spelt(span, given[-1], more, 1) and z == of_figures(deed, k, terms_told(more[0]))
    if deed in ("least", "greatest"):
        return _right_order(span, deed, given[0], z, more)
    if deed == "joined":
        return _spelt(span, given[1], more, 1) and z == plus(times(given[0], power(BASE, len(more[0]))), given[1])
    if deed == "root":
        return _right_root(span, given[0], z, more)
    if deed == "common":
        return _right_common(span, given[0], given[1], z, more)
    return len(more) == 0 and _right_alone(span, deed, given, z)


def right_test(span, word, told, outcome, looks):
    """Whether it is right that a test with this word holds, or does not."""
    match word:
        case "same":
            return len(looks) == 0 and _right_same(span, told[0], told[1], outcome)
        case "less":
            return len(looks) == 0 and _right_less(span, told[0], told[1], outcome)
        case "divides":
            return _right_divides(span, told[0], told[1], outcome, looks)
        case "mirrored":
            return _spelt(span, told[0], looks, 1) and _right_mirrored(span, terms_told(looks[0]), outcome)
        case _:
            return _spelt(span, told[0], looks, 1) and _right_unlike(span, terms_told(looks[0]), outcome)


def _spelt(span, x, more, many):
    """Whether so many things are told, the first of which spells x."""
    if len(more) != many:
        return False
    figures = terms_told(more[0])
    return figures is not None and span.spells(figures, x)


def _right_alone(span, deed, given, z):
    """Whether z is the result of a deed beside which nothing is told."""
    match deed:
        case "figures":
            return all([one < span.since for one in given]) and z == written([plain(one) for one in given])
        case "number":
            return z == plain(given[0])
        case "base":
            return z == BASE
        case "let":
            return z == given[0]
        case "+":
            return z == plus(given[0], given[1])
        case "-":
            return span.at_most(given[1], given[0]) and z == minus(given[0], given[1])
        case "*":
            return z == times(given[0], given[1])
        case "**":
            return z == power(given[0], given[1])
        case _:
            return _right_lesser(span, given[0], given[1], z)


def _right_lesser(span, x, y, z):
    """Whether z is the lesser of both."""
    return (z == x and span.at_most(x, y)) or (z == y and span.at_most(y, x))


def _right_quotient(span, deed, given, z, more):
    """Whether z is the quotient or the rest."""
    told = terms_told(more)
    if told is None or len(told) != 2 or not span.divides_so(given[0], given[1], told[0], told[1]):
        return False
    return z == (told[0] if deed == "//" else told[1])


def _right_order(span, deed, x, z, more):
    """Whether z is the number of the figures in their order."""
    if not _spelt(span, x, more, 2):
        return False
    figures = terms_told(more[0])
    order = terms_told(more[1])
    if order is None or len(order) != len(figures):
        return False
    for one in figures:
        if _many_of(one, order) != _many_of(one, figures):
            return False
    for at in range(1, len(order)):
        if not span.at_most(order[at - 1], order[at]):
            return False
    return z == written(order if deed == "least" else order[::-1])


def _many_of(term, terms):
    """How often a term stands among terms."""
    return len([one for one in terms if one == term])


def _right_root(span, x, z, more):
    """Whether z is the figure that is left."""
    if len(more) == 0:
        return x == ZERO and z == ZERO
    told = terms_told(more)
    if told is None or len(told) != 1 or not span.at_most(ONE, x):
        return False
    return span.divides_so(less_one(x), less_one(BASE), told[0], less_one(z))


def _right_common(span, x, y, z, more):
    """Whether z is the greatest common divisor."""
    if x == ZERO or y == ZERO:
        return len(more) == 0 and z == (y if x == ZERO else x)
    told = terms_told(more[:2])
    if len(more) != 5 or told is None or not all([is_integer(one) for one in more[2:]]):
        return False
    p, q = told
    u, v, w = more[2:]
    if w < 1 or not span.at_most(ONE, z) or times(z, p) != x or times(z, q) != y:
        return False
    if not span.has_whole(p) or not span.has_whole(q):
        return False
    if plus(times(p, plain(u)), times(q, plain(v))) != plain(w):
        return False
    if not _goes_by(span, p, w) or not _goes_by(span, q, w):
        return False
    rest = span.part[0]
    return gcd(gcd(value(p, rest), value(q, rest)), w) == 1


def _goes_by(span, x, w):
    """Whether the coefficients of x along the bases of a span, but the first one, are integers divisible by w."""
    return all([one % (x[0] * w) == 0 for one in along(x, span.part[0], span.part[1])[2:]])


def _right_same(span, x, y, outcome):
    """Whether both are the same, or are not."""
    return x == y if outcome else span.under(x, y) or span.under(y, x)


def _right_less(span, x, y, outcome):
    """Whether x is less than y, or is not."""
    return span.under(x, y) if outcome else span.at_most(y, x)


def _right_divides(span, x, y, outcome, looks):
    """Whether y is a multiple of x, or is not."""
    if len(looks) == 0:
        return x == ZERO and (y == ZERO if outcome else span.at_most(ONE, y))
    told = terms_told(looks)
    if told is None or len(told) != 2 or not span.at_most(ONE, x):
        return False
    if not span.divides_so(y, x, told[0], told[1]):
        return False
    return told[1] == ZERO if outcome else span.at_most(ONE, told[1])


def _right_mirrored(span, figures, outcome):
    """Whether the figures are alike from both ends, or are not."""
    if outcome:
        return figures == figures[::-1]
    pairs = list(zip(figures, figures[::-1]))
    return any([span.under(one, other) for one, other in pairs])


def _right_unlike(span, figures, outcome):
    """Whether no figure stands twice, or one does."""
    for at in range(len(figures)):
        for by in range(at):
            if outcome and not span.under(figures[at], figures[by]) and not span.under(figures[by], figures[at]):
                return False
            if not outcome and figures[at] == figures[by]:
                return True
    return outcome
