"""Books: what the runs of a program do in all bases."""

from everybase.bases import marked
from everybase.blocks import bare
from everybase.courses import bases_where, settled
from everybase.errors import NoName, NoRow, Stopped
from everybase.kinds import is_name
from everybase.parts import latest
from everybase.periods import least_period
from everybase.polys import ZERO, value
from everybase.runs import Walk, run
from everybase.terms import term_of
from everybase.treks import treks
from everybase.worths import Worth


def book(program):
    """The book of a program."""
    return Book(program)


class Book:
    """What the runs of a program do in all bases; it never changes.

    `early` are the ends of the runs in the bases from 2 on, one by one, and `late` those of the runs in all further
    bases, by rests. An end is a tuple: the number of the row at which the run stops, or None; what the names hold
    then (numbers, or terms as in `polys`), by a dict; the numbers of the rows that it came to, as keys of a dict.
    """

    def __init__(self, program):
        self.program = program
        self.names = program.names
        runs = treks(program)
        last = latest([trek.start for trek in runs])
        self.early = [_end_at(program, runs[base % len(runs)], base) for base in range(2, last)]
        self.late = [(trek.end, trek.held, trek.came) for trek in runs]
        told = [_told(end) for end in self.late]
        self.period = least_period(told)
        self.start = _least_start(self.early, self.late)

    def stops(self, at=None):
        """The set of the bases in which the run stops, or stops at the row with a number."""
        if at is None:
            return marked([end[0] is not None for end in self.early], [end[0] is not None for end in self.late])
        if not 0 <= at < len(self.program):
            raise NoRow(at)
        return marked([end[0] == at for end in self.early], [end[0] == at for end in self.late])

    def comes(self, at):
        """The set of the bases in which the run comes to the row with a number."""
        if not 0 <= at < len(self.program):
            raise NoRow(at)
        return marked([at in end[2] for end in self.early], [at in end[2] for end in self.late])

    def where(self, test):
        """The set of the bases in which the run does not stop and the test holds at the end."""
        ask, wanted = bare(test)
        return bases_where(ask.word, [_course(self, name) for name in ask.names], wanted)

    def tale(self, rest):
        """What the run does in the bases from the start on with this rest by the period."""
        end = self.late[rest % self.period]
        if end[0] is not None:
            return end[0]
        return {name: term_of(end[1][name]) for name in self.names}

    def __call__(self, base):
        return run(self.program, base)

    def __getitem__(self, at):
        if not is_name(at):
            raise NoName(at)
        return Worth(_course(self, at))

    def __iter__(self):
        raise TypeError("a book is not iterable")

    def __eq__(self, other):
        return isinstance(other, Book) and self.names == other.names and _contents(self) == _contents(other)


def _end_at(program, trek, base):
    """The end of the run in a base, which the trek tells from some base on."""
    if base >= trek.start:
        return trek.end, {name: value(trek.held[name], base) for name in trek.held}, trek.came
    walk = Walk(program.names, base)
    try:
        walk.go(program.rows, 0)
    except Stopped as stopped:
        return stopped.at, walk.held, walk.came
    return None, walk.held, walk.came


def _told(end):
    """What a run does: the row at which it stops, or what the names hold."""
    return end[1] if end[0] is None else end[0]


def _least_start(early, late):
    """The least base from which all runs do as those in all further bases."""
    many = len(early)
    while many > 0 and _goes_as(early[many - 1], late[(many + 1) % len(late)], many + 1):
        many = many - 1
    return many + 2


def _goes_as(early, late, base):
    """Whether a run in a base does as the runs in all further bases with its rest."""
    if early[0] is not None or late[0] is not None:
        return early[0] == late[0]
    return all([early[1][name] == value(late[1][name], base) for name in early[1]])


def _course(whole, name):
    """The course of what a name holds at the end (see `courses`)."""
    early = [end[1].get(name, 0) if end[0] is None else None for end in whole.early]
    late = [end[1].get(name, ZERO) if end[0] is None else None for end in whole.late]
    return settled(early, late)


def _contents(whole):
    """What tells books of the same names apart: the courses of the names, and where the runs stop at which row."""
    courses = [_course(whole, name) for name in whole.names]
    stops = {}
    for at in range(len(whole.program)):
        told = whole.stops(at)
        if bool(told):
            stops[at] = (told.start, told.period, told.rests, told.lone)
    return courses, stops
