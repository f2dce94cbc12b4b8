"""Numbers in all bases, and what deeds and tests make of them.

A *course* is a pair of tuples: the numbers in the bases from 2 on, one by one,
and then, by the rests of the base, the terms (as in `polys`) of those in all
further bases. Where there is no number, None stands in its place.
"""

from math import lcm

from everybase.bases import marked
from everybase.deeds import holding_of, result
from everybase.parts import Uneven, finer, later, latest
from everybase.periods import least_period
from everybase.polys import value
from everybase.ways import asked, done


def number_at(course, base):
    """The number in a base, or None."""
    early, late = course
    if base < len(early) + 2:
        return early[base - 2]
    term = late[base % len(late)]
    return None if term is None else value(term, base)


def settled(early, late):
    """The course with these numbers and terms that has the least period, and then begins it at the least base."""
    late = tuple(late[:least_period(late)])
    many = len(early)
    while many > 0 and early[many - 1] == number_at(((), late), many + 1):
        many = many - 1
    return tuple(early[:many]), late


def worked(deed, given):
    """The course of the results of a deed whose arguments are courses and plain numbers."""
    leaves = []
    queue = list(_whole_parts(given))
    while len(queue) > 0:
        part = queue.pop()
        told = [_in_part(one, part) for one in given]
        if None in told:
            leaves.append((part, None, 2))
            continue
        try:
            term, _, start = done(deed, told, part)
            leaves.append((part, term, start))
        except Uneven as uneven:
            queue.extend(finer(part, uneven.factor))
    end = _end(given, leaves)
    early = [_numbers_at(given, base) for base in range(2, end)]
    numbers = [None if None in told else result(deed, told, at + 2) for at, told in enumerate(early)]
    return settled(numbers, by_rests(leaves))


def bases_where(word, courses, wanted):
    """The set of the bases in which there are numbers and a test holds for them, or does not, as wanted."""
    leaves = []
    queue = list(_whole_parts(courses))
    # Whether two terms are the same, or one is less, does not depend on the part.
    known = {}
    while len(queue) > 0:
        part = queue.pop()
        told = tuple([_in_part(one, part) for one in courses])
        if told in known:
            leaves.append((part, known[told][0], known[told][1]))
            continue
        if None in told:
            leaves.append((part, False, 2))
            continue
        try:
            outcome, _, start = asked(word, told, part)
            leaves.append((part, outcome == wanted, start))
            if word in ("same", "less"):
                known[told] = (outcome == wanted, start)
        except Uneven as uneven:
            queue.extend(finer(part, uneven.factor))
    end = _end(courses, leaves)
    early = [_numbers_at(courses, base) for base in range(2, end)]
    marks = [None not in told and holding_of(word, told, at + 2) == wanted for at, told in enumerate(early)]
    return marked(marks, by_rests(leaves))


def kept(course, bases):
    """The course with the numbers in a set of bases alone."""
    early, late = course
    end = later(len(early) + 2, bases.start)
    numbers = [number_at(course, base) if base in bases else None for base in range(2, end)]
    period = lcm(len(late), bases.period)
    terms = [
        late[rest % len(late)] if rest % bases.period in bases.among_rests else None for rest in range(period)
    ]
    return settled(numbers, terms)


def filled(course, other):
    """The course with the numbers of one course, and where it has none with those of another one."""
    end = later(len(course[0]), len(other[0])) + 2
    numbers = [
        number_at(other, base) if number_at(course, base) is None else number_at(course, base)
        for base in range(2, end)
    ]
    parts = _whole_parts([course, other])
    terms = [
        _in_part(other, part) if _in_part(course, part) is None else _in_part(course, part) for part in parts
    ]
    return settled(numbers, terms)


def by_rests(leaves):
    """The list of what holds in parts, by the rests that a base has by a period of all of them.

    The leaves are tuples of a part, what holds in it, and perhaps more; the parts have all bases, each once.
    """
    period = 1
    for leaf in leaves:
        period = lcm(period, leaf[0][1])
    found = [None] * period
    for leaf in leaves:
        rest, stride = leaf[0]
        for at in range(rest, period, stride):
            found[at] = leaf[1]
    return found


def _whole_parts(given):
    """The list of the parts in each of which all courses have one term."""
    period = 1
    for one in given:
        if isinstance(one, tuple):
            period = lcm(period, len(one[1]))
    return [(rest, period) for rest in range(period)]


def _in_part(one, part):
    """The term that an argument has in a part; a plain number is told as it is."""
    if isinstance(one, tuple):
        return one[1][part[0] % len(one[1])]
    return one


def _numbers_at(given, base):
    """The list of the numbers that arguments have in a base."""
    return [number_at(one, base) if isinstance(one, tuple) else one for one in given]


def _end(given, leaves):
    """The base from which the terms of all courses hold, and all that the leaves tell."""
    starts = [leaf[2] for leaf in leaves]
    return latest(starts + [len(one[0]) + 2 for one in given if isinstance(one, tuple)])
