"""Whether programs do the same in all bases, and where they do not."""

from everybase.books import book
from everybase.courses import bases_where
from everybase.errors import Stopped
from everybase.rows import Not
from everybase.runs import run

# Programs that differ mostly do so in one of these, which is told sooner than by books.
FEW = (2, 3, 4, 5, 7, 10, 12, 30)


def alike(p, q, *, within=None):
    """Whether two programs do the same in all bases."""
    return not bool(partings(p, q, within=within))


def least_parting(p, q, *, within=None):
    """The least base in which two programs do not do the same, or None."""
    return partings(p, q, within=within).lowest


def partings(p, q, *, within=None):
    """The set of the bases in which two programs do not do the same."""
    return _among(_partings(book(p), book(q)), within)


def sure(program, test, *, within=None):
    """Whether in all bases in which the program does not stop the test holds at the end."""
    return not bool(_breaches(program, test, within))


def least_breach(program, test, *, within=None):
    """The least base in which the program does not stop and the test does not hold at the end, or None."""
    return _breaches(program, test, within).lowest


def needless(program):
    """The ascending tuple of the numbers of the rows without which, each alone, the program does the same."""
    whole = book(program)
    told = [_done(program, base) for base in FEW]
    found = []
    for at in range(len(program)):
        less = program.without(at)
        if told == [_all_of(program, _done(less, base)) for base in FEW] and not bool(_partings(whole, book(less))):
            found.append(at)
    return tuple(found)


def _among(bases, within):
    """The bases of a set that are meant."""
    return bases if within is None else bases & within


def _partings(one, other):
    """The set of the bases in which the programs of two books do not do the same."""
    found = one.stops() ^ other.stops()
    for name in list({name: True for name in one.names + other.names}):
        found = found | bases_where("same", [one[name].course, other[name].course], False)
    return found


def _breaches(program, test, within):
    """The set of the bases that are meant in which the program does not stop and the test does not hold."""
    return _among(book(program).where(Not(test)), within)


def _done(program, base):
    """What the names hold at the end, or None if the run stops."""
    try:
        return run(program, base)
    except Stopped:
        return None


def _all_of(program, held):
    """What the names of a program hold if a part of it ends with this; None stays."""
    return None if held is None else {name: held.get(name, 0) for name in program.names}
