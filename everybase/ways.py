"""What deeds and tests come to in all bases of a part (see `parts`), with terms in the place of names.

Beside a result stands what a paper tells of it: a tuple of terms, tuples of
terms and integers. It is followed by the base from which all this is sure.
"""

from everybase.parts import apart, divided, later, of_figures, raised, shared, spelling, written
from everybase.polys import BASE, ONE, ZERO, less_one, minus, plain, plus, power, sign, sure_since, times

SPELT = ("turned", "sum", "many", "figure", "first", "last")


def done(deed, given, part):
    """The result of a deed with these arguments (None if its row stops), what a paper tells, and the base."""
    if deed == "figures":
        return written([plain(one) for one in given]), (), later(2, max([int(one) for one in given]) + 1)
    if deed == "number":
        return plain(given[0]), (), 2
    if deed == "base":
        return BASE, (), 2
    if deed == "let":
        return given[0], (), 2
    if deed in ("figure", "first", "last"):
        return _spelt(deed, given[0], given[1], part)
    if len(given) == 1:
        return _of_one(deed, given[0], part)
    return _of_two(deed, given[0], given[1], part)


def asked(word, told, part):
    """Whether a test with this word holds for these terms, what a paper tells, and the base."""
    match word:
        case "same":
            return (True, (), 2) if told[0] == told[1] else (False, (), apart(told[0], told[1]))
        case "less":
            return _less(told[0], told[1])
        case "divides":
            return _divides(told[0], told[1], part)
        case "mirrored":
            return _mirrored(told[0], part)
        case _:
            return _unlike(told[0], part)


def _spelt(deed, k, x, part):
    """What comes of the figures of x as they stand."""
    figures, start = spelling(x, part)
    return of_figures(deed, k, figures), (figures,), start


def _of_one(deed, x, part):
    """What comes of a deed with one number."""
    if deed in SPELT:
        return _spelt(deed, 0, x, part)
    if deed == "root":
        return _root(x, part)
    figures, start = spelling(x, part)
    order, since = raised(figures)
    number = written(order if deed == "least" else order[::-1])
    return number, (figures, order), later(start, since)


def _root(x, part):
    """What comes of the sum of figures, taken until there is one figure."""
    if x == ZERO:
        return ZERO, (), 2
    quotient, rest, start = divided(less_one(x), less_one(BASE), part)
    return plus(rest, ONE), (quotient,), later(start, sure_since(less_one(x)))


def _of_two(deed, x, y, part):
    """What comes of a deed with two numbers."""
    match deed:
        case "+":
            return plus(x, y), (), 2
        case "-":
            return _difference(x, y)
        case "*":
            return times(x, y), (), 2
        case "//" | "rest":
            return _quotient(deed, x, y, part)
        case "**":
            return power(x, y), (), 2
        case "joined":
            figures, start = spelling(y, part)
            return plus(times(x, power(BASE, len(figures))), y), (figures,), start
        case "common":
            return _common(x, y, part)
        case _:
            lesser, greater = (x, y) if sign(minus(y, x)) >= 0 else (y, x)
            return lesser, (), sure_since(minus(greater, lesser))


def _difference(x, y):
    """What comes of `-`."""
    difference = minus(x, y)
    if sign(difference) < 0:
        return None, (), apart(x, y)
    return difference, (), sure_since(difference)


def _quotient(deed, x, y, part):
    """What comes of `//` and `rest`."""
    if y == ZERO:
        return None, (), 2
    quotient, rest, start = divided(x, y, part)
    return (quotient if deed == "//" else rest), (quotient, rest), start


def _common(x, y, part):
    """What comes of the greatest common divisor."""
    if x == ZERO:
        return y, (), 2
    if y == ZERO:
        return x, (), 2
    return shared(x, y, part)


def _less(x, y):
    """What comes of the test whether x is less than y."""
    if sign(minus(y, x)) > 0:
        return True, (), apart(x, y)
    return False, (), sure_since(minus(x, y))


def _divides(x, y, part):
    """What comes of the test whether y is a multiple of x."""
    if x == ZERO:
        return y == ZERO, (), 2 if y == ZERO else sure_since(less_one(y))
    # As the rest is surely from 0 on and less than x, x is surely at least 1.
    quotient, rest, start = divided(y, x, part)
    if rest != ZERO:
        start = later(start, sure_since(less_one(rest)))
    return rest == ZERO, (quotient, rest), start


def _mirrored(x, part):
    """What comes of the test whether the figures are alike from both ends."""
    figures, start = spelling(x, part)
    for at in range(len(figures) // 2):
        if figures[at] != figures[-1 - at]:
            return False, (figures,), later(start, apart(figures[at], figures[-1 - at]))
    return True, (figures,), start


def _unlike(x, part):
    """What comes of the test whether no figure stands twice."""
    figures, start = spelling(x, part)
    order, since = raised(figures)
    for at in range(1, len(order)):
        if order[at] == order[at - 1]:
            return False, (figures,), start
        since = later(since, apart(order[at], order[at - 1]))
    return True, (figures,), later(start, since)
