"""Sets of bases in which it depends on a rest alone, from some base on, whether a base is in them."""

from math import lcm

from everybase.errors import InvalidBase, NoPlace
from everybase.kinds import is_base
from everybase.periods import least_period


class Bases:
    """A set of bases; it never changes."""

    def __init__(self, start, period, rests, lone):
        self.start = start
        self.period = period
        self.rests = rests
        self.lone = lone
        # A tuple is gone through to find something; a dict is not.
        self.among_rests = {rest: True for rest in rests}
        self.among_lone = {base: True for base in lone}

    @classmethod
    def none(cls):
        """The empty set."""
        return cls(2, 1, (), ())

    @classmethod
    def every(cls):
        """The set of all bases."""
        return cls(2, 1, (0,), ())

    @classmethod
    def of(cls, bases):
        """The set of these bases."""
        if not all([is_base(base) for base in bases]):
            raise InvalidBase()
        lone = tuple(sorted([int(base) for base in list({base: True for base in bases})]))
        return cls(_behind(lone), 1, (), lone)

    @classmethod
    def rest(cls, period, rest):
        """The set of the bases with this rest by the period."""
        return cls(2, period, (rest % period,), ())

    @classmethod
    def upward(cls, first):
        """The set of all bases from an integer on."""
        return cls(max(2, int(first)), 1, (0,), ())

    @property
    def lowest(self):
        """The least base, or None if there is none."""
        return self.nth(0) if bool(self) else None

    @property
    def size(self):
        """How many bases there are, or None if there are endlessly many."""
        return None if len(self.rests) > 0 else len(self.lone)

    def below(self, number):
        """How many bases there are below an integer."""
        many = len([base for base in self.lone if base < number])
        for first in _firsts(self):
            if first < number:
                many = many + (number - first - 1) // self.period + 1
        return many

    def nth(self, k):
        """The k-th base, ascending from 0."""
        if k < 0:
            raise NoPlace(k)
        if k < len(self.lone):
            return self.lone[k]
        if len(self.rests) == 0:
            raise NoPlace(k)
        turns, at = divmod(k - len(self.lone), len(self.rests))
        return _firsts(self)[at] + turns * self.period

    def __and__(self, other):
        if not isinstance(other, Bases):
            return NotImplemented
        return _combined("&", self, other)

    def __or__(self, other):
        if not isinstance(other, Bases):
            return NotImplemented
        return _combined("|", self, other)

    def __sub__(self, other):
        if not isinstance(other, Bases):
            return NotImplemented
        return _combined("-", self, other)

    def __xor__(self, other):
        if not isinstance(other, Bases):
            return NotImplemented
        return _combined("^", self, other)

    def __invert__(self):
        return _combined("-", Bases.every(), self)

    def __le__(self, other):
        if not isinstance(other, Bases):
            return NotImplemented
        return _within(self, other)

    def __lt__(self, other):
        if not isinstance(other, Bases):
            return NotImplemented
        return _within(self, other) and not _within(other, self)

    def __ge__(self, other):
        if not isinstance(other, Bases):
            return NotImplemented
        return _within(other, self)

    def __gt__(self, other):
        if not isinstance(other, Bases):
            return NotImplemented
        return _within(other, self) and not _within(self, other)

    def __eq__(self, other):
        return isinstance(other, Bases) and _told(self) == _told(other)

    def __contains__(self, x):
        return is_base(x) and _has(self, x)

    def __bool__(self):
        return bool(len(self.lone) + len(self.rests))

    def __str__(self):
        return str(_text(self))


def marked(early, late):
    """The set told by whether the bases from 2 on are in it, and those behind by their rests: two lists of bools."""
    return _settled(len(early) + 2, [at + 2 for at, mark in enumerate(early) if mark], late)


def _settled(start, lone, marks):
    """The set with these bases below the start, ascending, and from it on those whose rests are marked."""
    period = least_period(marks)
    rests = tuple([rest for rest in range(period) if marks[rest]])
    many = len(lone)
    if len(rests) == 0:
        return Bases(_behind(lone), 1, (), tuple(lone))
    while start > 2 and (many > 0 and lone[many - 1] == start - 1) == marks[(start - 1) % period]:
        if marks[(start - 1) % period]:
            many = many - 1
        start = start - 1
    return Bases(start, period, rests, tuple(lone[:many]))


def _behind(lone):
    """The base behind the last one of a set that ends."""
    return lone[-1] + 1 if len(lone) > 0 else 2


def _told(bases):
    """What tells a set apart from all others."""
    return (bases.start, bases.period, bases.rests, bases.lone)


def _has(bases, base):
    """Whether a base is in a set."""
    if base < bases.start:
        return base in bases.among_lone
    return base % bases.period in bases.among_rests


def _firsts(bases):
    """The ascending list of the least base from the start on with each of the rests."""
    return sorted([int(bases.start + (rest - bases.start) % bases.period) for rest in bases.rests])


def _combined(sign, one, other):
    """What an operator makes of two sets."""
    period = lcm(one.period, other.period)
    marks = _both(
        sign,
        [rest % one.period in one.among_rests for rest in range(period)],
        [rest % other.period in other.among_rests for rest in range(period)],
    )
    # Both sets depend on rests alone from here on.
    end = one.start if one.start > other.start else other.start
    if sign == "&":
        few, many = (one, other) if one.below(end) < other.below(end) else (other, one)
        return _settled(end, _listed(few, many, True, end), marks)
    lone = _listed(one, other, False, end)
    if sign == "|":
        lone = lone + _listed(other, Bases.none(), False, end)
    if sign == "^":
        lone = lone + _listed(other, one, False, end)
    return _settled(end, sorted([int(base) for base in lone]), marks)


def _both(sign, ones, others):
    """The marks that an operator makes of those of two sets."""
    pairs = list(zip(ones, others))
    match sign:
        case "&":
            return [one and other for one, other in pairs]
        case "|":
            return [one or other for one, other in pairs]
        case "-":
            return [one and not other for one, other in pairs]
        case _:
            return [one != other for one, other in pairs]


def _listed(bases, other, wanted, end):
    """The list of the bases of a set below an end, not below its start, that are, or are not, in another one."""
    # Lone bases may be far apart, so what lies between them is not gone through.
    found = [base for base in bases.lone if _has(other, base) == wanted]
    if len(bases.rests) > 0:
        for base in range(bases.start, end):
            if base % bases.period in bases.among_rests and _has(other, base) == wanted:
                found.append(base)
    return found


def _within(one, other):
    """Whether all bases of one set are in another one."""
    return not bool(_combined("-", one, other))


def _text(bases):
    """The text of a set."""
    lone = " ".join([str(base) for base in bases.lone])
    if len(bases.rests) == 0:
        return lone if len(lone) > 0 else "none"
    rests = " ".join([str(rest) for rest in bases.rests])
    behind = f"from {bases.start}: {rests} of {bases.period}"
    return f"{lone}, {behind}" if len(lone) > 0 else behind
