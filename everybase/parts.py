"""Terms in all bases of a part: quotients, figures, common divisors, and which of two is less.

A *part* is a pair of a rest and a period: all bases with this rest by the
period. What is told of a part holds from some base on, and as terms are told
as in `polys`, they must have whole values in its bases, and none below 0. A
result is followed by the base from which it is sure.
"""

from math import gcd, lcm

from everybase.polys import (
    BASE, ONE, ZERO, along, less_one, leftovers, minus, over_all, parted, plus, reduced, sign, sure_since, times, value,
)


class Uneven(Exception):
    """A result is no term in all of a part; it is one in its parts by a period so many times as long."""

    def __init__(self, factor):
        self.factor = factor


def finer(part, factor):
    """The list of the parts of a part by a period so many times as long."""
    rest, period = part
    return [(rest + period * at, period * factor) for at in range(factor)]


def later(one, other):
    """The greater one of two bases."""
    return other if other > one else one


def latest(starts):
    """The greatest one of bases; 2 if there is none."""
    last = 2
    for start in starts:
        last = later(last, start)
    return last


def divided(x, y, part):
    """The quotient and the rest of x by a y that is not 0."""
    quotient, left = parted(x, y)
    over = leftovers(quotient, part[0], part[1])
    if len(over) > 1:
        raise Uneven(len(over))
    if over[0] != 0:
        quotient = minus(quotient, reduced(quotient[0], over))
    elif sign(left) < 0:
        quotient = less_one(quotient)
    rest = minus(x, times(quotient, y))
    return quotient, rest, later(sure_since(rest), sure_since(less_one(minus(y, rest))))


def spelling(x, part):
    """The tuple of the figures of x, the greatest place first."""
    behind = []
    start = 2
    left = x
    while len(behind) == 0 or left != ZERO:
        left, one, since = divided(left, BASE, part)
        behind.append(one)
        start = later(start, since)
    if x != ZERO:
        start = later(start, sure_since(less_one(behind[-1])))
    return tuple(behind[::-1]), start


def written(figures):
    """The number with these figures; 0 if there are none."""
    number = ZERO
    for one in figures:
        number = plus(times(number, BASE), one)
    return number


def of_figures(deed, k, figures):
    """The result of a deed that takes the figures of one number; k is the plain number, if it needs one."""
    match deed:
        case "turned":
            return written(figures[::-1])
        case "sum":
            return _total(figures)
        case "many":
            return (1, len(figures))
        case "figure":
            return figures[len(figures) - 1 - k] if k < len(figures) else ZERO
        case "first":
            return written(figures[:k])
        case _:
            return written(figures[max(0, len(figures) - k):])


def raised(figures):
    """The tuple of the figures, ascending."""
    found = []
    start = 2
    for one in figures:
        at = len(found)
        while at > 0 and sign(minus(found[at - 1], one)) > 0:
            at = at - 1
        found.insert(at, one)
    for at in range(1, len(found)):
        start = later(start, sure_since(minus(found[at], found[at - 1])))
    return tuple(found), start


def apart(x, y):
    """The base from which two terms that are not the same differ surely."""
    difference = minus(x, y)
    return sure_since(less_one(difference if sign(difference) > 0 else minus(y, x)))


def shared(x, y, part):
    """The greatest common divisor z of x and y, which are not 0, and with it p and q, so that x is `z * p` and y is
    `z * q`, and u, v and w, so that `u * p + v * q` is w, if there are such integers.
    """
    common, p, q, u, v, many = _told_apart(x, y)
    # What the coefficients of all powers but 0 share, the period need not bring.
    needed = many
    for one in p[2:] + q[2:]:
        needed = gcd(needed, one)
    needed = many // needed
    if part[1] % needed != 0:
        raise Uneven(needed // gcd(needed, part[1]))
    by = gcd(value(p, part[0]), value(q, part[0]))
    z = times(common, (1, by))
    told = (over_all(p, by), over_all(q, by), _first(u), _first(v), many // by)
    return z, told, sure_since(less_one(z))


def _total(figures):
    """The sum of terms."""
    total = ZERO
    for one in figures:
        total = plus(total, one)
    return total


def _first(x):
    """The coefficient of the power 0 of a polynomial with integers as coefficients."""
    return x[1] if len(x) > 1 else 0


def _told_apart(x, y):
    """A polynomial that divides x and y, what is left of them, p and q, with integers as coefficients and no
    divisor common to all of these, and u, v and the least integer w from 1 on so that `u * p + v * q` is w.
    """
    one, other = x, y
    u, v = ONE, ZERO
    next_u, next_v = ZERO, ONE
    while other != ZERO:
        quotient, left = parted(one, other)
        one, other = other, left
        u, next_u = next_u, minus(u, times(quotient, next_u))
        v, next_v = next_v, minus(v, times(quotient, next_v))
    if sign(one) < 0:
        one, u, v = minus(ZERO, one), minus(ZERO, u), minus(ZERO, v)
    p = parted(x, one)[0]
    q = parted(y, one)[0]
    # So far u * p + v * q is 1; p and q are stretched first, then u and v.
    over, content = _stretch([p, q])
    common = times(one, reduced(over, (content,)))
    stretch = reduced(content, (over,))
    p, q = times(p, stretch), times(q, stretch)
    over, content = _stretch([u, v, stretch])
    by = reduced(content, (over,))
    return common, p, q, times(u, by), times(v, by), _first(times(stretch, by))


def _stretch(terms):
    """The least integer by which the coefficients become integers, and the greatest divisor that these have then."""
    over = 1
    for one in terms:
        over = lcm(over, one[0])
    content = 0
    for one in terms:
        for coefficient in one[1:]:
            content = gcd(content, coefficient * (over // one[0]))
    return over, content
