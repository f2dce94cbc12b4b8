"""Polynomials of the base with fractions as coefficients, as plain tuples.

One is `(over, c0, c1, ..)`: the coefficients, that of the power 0 first, are
divided by `over`, an integer from 1 on. What the functions return is in lowest
terms: no zeros at the end, and no divisor above 1 common to all of it.
"""

from math import gcd

ZERO = (1,)
ONE = (1, 1)
BASE = (1, 0, 1)


def reduced(over, coefficients):
    """The polynomial with these coefficients, divided by an integer from 1 on."""
    many = len(coefficients)
    while many > 0 and coefficients[many - 1] == 0:
        many = many - 1
    kept = tuple(coefficients[:many])
    common = over
    for one in kept:
        if common == 1:
            break
        common = gcd(common, one)
    if common == 1:
        return (over,) + kept
    return (over // common,) + tuple([one // common for one in kept])


def plain(k):
    """The polynomial that is an integer in all bases."""
    return (1, k) if k != 0 else ZERO


def plus(x, y):
    """The sum."""
    over = x[0] * y[0]
    many = len(x) - len(y)
    one = x[1:] + (0,) * -many
    other = y[1:] + (0,) * many
    if over == 1:
        return reduced(1, [a + c for a, c in zip(one, other)])
    return reduced(over, [a * y[0] + c * x[0] for a, c in zip(one, other)])


def negative(x):
    """The polynomial with the other sign."""
    return x[:1] + tuple([-one for one in x[1:]])


def minus(x, y):
    """The difference."""
    return plus(x, negative(y))


def less_one(x):
    """The polynomial less 1."""
    return plus(x, (1, -1))


def times(x, y):
    """The product."""
    found = [0] * (len(x) + len(y))
    for at, one in enumerate(x[1:]):
        for by, other in enumerate(y[1:]):
            found[at + by] = found[at + by] + one * other
    return reduced(x[0] * y[0], found)


def power(x, k):
    """The k-th power; 1 for k = 0, whatever the polynomial is."""
    found = ONE
    for _ in range(k):
        found = times(found, x)
    return found


def over_all(x, k):
    """The polynomial, divided by an integer from 1 on."""
    return reduced(x[0] * k, x[1:])


def value(x, base):
    """The value in an integer, or None if it is not whole."""
    number = 0
    for one in x[:0:-1]:
        number = number * base + one
    if x[0] == 1:
        return number
    return number // x[0] if number % x[0] == 0 else None


def sign(x):
    """An integer below 0, 0, or one above it: as the values are from some base on."""
    return x[-1] if len(x) > 1 else 0


def along(x, rest, stride):
    """The polynomial of t that comes of `rest + stride * t` in the place of the base, with the same `over`."""
    row = list(x[1:])
    for low in range(len(row) - 1):
        for at in range(len(row) - 2, low - 1, -1):
            row[at] = row[at] + rest * row[at + 1]
    scale = 1
    for at in range(len(row)):
        row[at] = row[at] * scale
        scale = scale * stride
    return x[:1] + tuple(row)


def is_sure(x, start):
    """Whether no coefficient of the sign row from an integer on is below 0."""
    if sign(x) < 0:
        return False
    row = list(x[1:])
    for low in range(len(row) - 1):
        for at in range(len(row) - 2, low - 1, -1):
            row[at] = row[at] + start * row[at + 1]
        if row[low] < 0:
            return False
    return True


def sure_since(x):
    """The least base from which the sign row has nothing below 0, or None if there is none."""
    if sign(x) < 0:
        return None
    if all([one >= 0 for one in x[1:]]):
        return 2
    if len(x) == 3:
        return max(2, int(-(x[1] // x[2])))
    low = 1
    high = 2
    # A sign row without anything below 0 stays so from any greater base on.
    while not is_sure(x, high):
        low = high
        high = high * 2
    while high - low > 1:
        middle = (low + high) // 2
        if is_sure(x, middle):
            high = middle
        else:
            low = middle
    return high


def whole_in(x, rest, period):
    """Whether the value is an integer for all integers with this rest by the period."""
    # A polynomial that is whole in so many places one behind another is whole in all.
    return x[0] == 1 or all([_left_over(x, rest + period * t) == 0 for t in range(len(x) - 1)])


def leftovers(x, rest, period):
    """What is left over, in the integers with this rest, when the sum is divided by `over`: the shortest tuple
    that repeats behind its end.
    """
    if x[0] == 1:
        return (0,)
    degree = len(x) - 2
    begun = [_left_over(x, rest + period * t) for t in range(degree + 1)]
    # What is the same in so many places one behind another is so in all.
    if begun == begun[:1] * len(begun):
        return tuple(begun[:1])
    for many in range(2, x[0]):
        if x[0] % many == 0:
            told = [_left_over(x, rest + period * t) for t in range(many + degree)]
            if told[:degree] == told[many:]:
                return tuple(told[:many])
    return tuple([_left_over(x, rest + period * t) for t in range(x[0])])


def parted(x, y):
    """The quotient, and what is left over, which has a lower degree than y: x is the quotient times y and that."""
    left = list(x[1:])
    low = len(y) - 2
    lead = y[-1]
    quotient = [0] * max(0, len(x) - len(y) + 1)
    scale = 1
    for at in range(len(quotient) - 1, -1, -1):
        top = left[at + low]
        if lead != 1:
            quotient = [one * lead for one in quotient]
            left = [one * lead for one in left]
            scale = scale * lead
        quotient[at] = top
        for k in range(low + 1):
            left[at + k] = left[at + k] - top * y[k + 1]
    # The scale is a power of the greatest coefficient, which may be below 0.
    over = x[0] * scale
    if over < 0:
        return _opposite(-over, [one * y[0] for one in quotient]), _opposite(-over, left)
    return reduced(over, [one * y[0] for one in quotient]), reduced(over, left)


def _opposite(over, coefficients):
    """The polynomial with the other sign of one with these coefficients."""
    return reduced(over, [-one for one in coefficients])


def _left_over(x, base):
    """What is left over in an integer when the coefficients are not yet divided."""
    number = 0
    for one in x[:0:-1]:
        number = (number * base + one) % x[0]
    return number
