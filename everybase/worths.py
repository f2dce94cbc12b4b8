"""Worths: numbers that depend on the base."""

from everybase.bases import marked
from everybase.courses import bases_where, filled, kept, number_at, worked
from everybase.errors import InvalidBase, InvalidWorth
from everybase.kinds import is_base, is_number
from everybase.polys import plain
from everybase.terms import term_of


class Worth:
    """A number in each base of a set of bases, and none in the others; it never changes."""

    def __init__(self, course):
        # The course is settled: no other one tells the same worth.
        self.course = course
        self.lone = course[0]
        self.terms = _terms(course[1])
        self.start = len(self.lone) + 2
        self.period = len(self.terms)

    @classmethod
    def number(cls, k):
        """The number k in all bases."""
        if not is_number(k):
            raise InvalidWorth("number")
        return cls(_course_of(k))

    @classmethod
    def base(cls):
        """The base."""
        return cls(worked("base", []))

    @classmethod
    def figures(cls, *figures):
        """The number with these figures, none in the bases that are not above each of them."""
        if len(figures) == 0 or not all([is_number(one) for one in figures]):
            raise InvalidWorth("figures")
        return cls(worked("figures", list(figures)))

    @property
    def bases(self):
        """The set of the bases in which there is a number."""
        early, late = self.course
        return marked([one is not None for one in early], [one is not None for one in late])

    def __call__(self, base):
        if not is_base(base):
            raise InvalidBase()
        return number_at(self.course, base)

    def turned(self):
        """Base by base the number with the figures in reverse order."""
        return _made("turned", [self])

    def least(self):
        """Base by base the number with the figures ascending."""
        return _made("least", [self])

    def greatest(self):
        """Base by base the number with the figures descending."""
        return _made("greatest", [self])

    def total(self):
        """Base by base the sum of the figures."""
        return _made("sum", [self])

    def many(self):
        """Base by base how many figures there are."""
        return _made("many", [self])

    def root(self):
        """Base by base the figure that is left if the sum of figures is taken until there is one figure."""
        return _made("root", [self])

    def figure(self, k):
        """Base by base the k-th figure from behind, 0 the last one; 0 if there is none."""
        return Worth(worked("figure", [k, self.course]))

    def first(self, k):
        """Base by base the number of the first k figures."""
        return Worth(worked("first", [k, self.course]))

    def last(self, k):
        """Base by base the number of the last k figures."""
        return Worth(worked("last", [k, self.course]))

    def joined(self, other):
        """Base by base the number with the figures of this one and behind them those of the other."""
        return _made("joined", [self, other])

    def common(self, other):
        """Base by base the greatest common divisor."""
        return _made("common", [self, other])

    def lesser(self, other):
        """Base by base the lesser of both."""
        return _made("lesser", [self, other])

    def same(self, other):
        """The set of the bases in which both are one number."""
        return _where("same", [self, other])

    def less(self, other):
        """The set of the bases in which this one is less."""
        return _where("less", [self, other])

    def divides(self, other):
        """The set of the bases in which the other one is a multiple of this one."""
        return _where("divides", [self, other])

    def mirrored(self):
        """The set of the bases in which the figures are alike from both ends."""
        return _where("mirrored", [self])

    def unlike(self):
        """The set of the bases in which no figure stands twice."""
        return _where("unlike", [self])

    def within(self, bases):
        """The worth with the numbers in these bases alone."""
        return Worth(kept(self.course, bases))

    def __add__(self, other):
        return _made("+", [self, other])

    def __radd__(self, other):
        return _made("+", [other, self])

    def __sub__(self, other):
        return _made("-", [self, other])

    def __rsub__(self, other):
        return _made("-", [other, self])

    def __mul__(self, other):
        return _made("*", [self, other])

    def __rmul__(self, other):
        return _made("*", [other, self])

    def __floordiv__(self, other):
        return _made("//", [self, other])

    def __rfloordiv__(self, other):
        return _made("//", [other, self])

    def __mod__(self, other):
        return _made("rest", [self, other])

    def __rmod__(self, other):
        return _made("rest", [other, self])

    def __pow__(self, other):
        return Worth(worked("**", [self.course, other]))

    def __or__(self, other):
        return Worth(filled(self.course, _course_of(other)))

    def __ror__(self, other):
        return Worth(filled(_course_of(other), self.course))

    def __le__(self, other):
        return not bool(_where("less", [other, self]))

    def __lt__(self, other):
        return not bool(_where_not("less", [self, other]))

    def __ge__(self, other):
        return not bool(_where("less", [self, other]))

    def __gt__(self, other):
        return not bool(_where_not("less", [other, self]))

    def __eq__(self, other):
        return isinstance(other, Worth) and self.course == other.course


def _course_of(operand):
    """The course of a worth, or of a number that stands for one."""
    if isinstance(operand, Worth):
        return operand.course
    return (), (plain(operand),)


def _made(deed, operands):
    """The worth that a deed makes of worths and numbers."""
    return Worth(worked(deed, [_course_of(one) for one in operands]))


def _where(word, operands):
    """The set of the bases in which all have numbers and a test holds for them."""
    return bases_where(word, [_course_of(one) for one in operands], True)


def _where_not(word, operands):
    """The set of the bases in which all have numbers and a test does not hold for them."""
    return bases_where(word, [_course_of(one) for one in operands], False)


def _terms(polys):
    """The tuple of the terms that polynomials are, None for None."""
    known = {None: None}
    for poly in polys:
        if poly not in known:
            known[poly] = term_of(poly)
    return tuple([known[poly] for poly in polys])
