"""Terms as a paper tells them, and what is surely so of them."""

from everybase.kinds import is_integer
from everybase.parts import written
from everybase.polys import BASE, ONE, ZERO, is_sure, less_one, minus, plus, reduced, times, whole_in


class Span:
    """The bases from a first one, `since`, on with one rest by a period: those of which a tale speaks."""

    def __init__(self, since, part):
        self.since = since
        self.part = part

    def at_most(self, x, y):
        """Whether x is surely at most y."""
        return is_sure(minus(y, x), self.since)

    def under(self, x, y):
        """Whether x is surely less than y."""
        return is_sure(less_one(minus(y, x)), self.since)

    def has_whole(self, x):
        """Whether x is whole."""
        return whole_in(x, self.part[0], self.part[1])

    def spells(self, figures, x):
        """Whether terms are the figures of x."""
        if len(figures) == 0 or written(figures) != x:
            return False
        for one in figures:
            if not self.has_whole(one) or not self.at_most(ZERO, one) or not self.under(one, BASE):
                return False
        if len(figures) == 1 and figures[0] == ZERO:
            return True
        return self.at_most(ONE, figures[0])

    def divides_so(self, x, y, quotient, rest):
        """Whether this is the quotient and the rest of x by y."""
        if plus(times(quotient, y), rest) != x:
            return False
        return self.at_most(ZERO, rest) and self.under(rest, y) and self.has_whole(quotient)


def term_told(value):
    """The polynomial (see `polys`) that a value tells, or None if it tells none."""
    if not isinstance(value, tuple) or len(value) == 0 or not all([is_integer(one) for one in value]):
        return None
    return reduced(value[0], value[1:]) if value[0] > 0 else None


def terms_told(value):
    """The tuple of the polynomials that a tuple of told terms tells, or None if a value is no such tuple."""
    if not isinstance(value, tuple):
        return None
    terms = tuple([term_told(one) for one in value])
    return None if None in terms else terms
