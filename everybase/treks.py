"""Runs in all bases at once: from some base on, one for each of the parts (see `parts`) of which these consist."""

from everybase.blocks import bare
from everybase.courses import by_rests
from everybase.errors import Stopped
from everybase.parts import Uneven, finer, later
from everybase.polys import ZERO
from everybase.runs import Walk
from everybase.ways import asked, done


class Trek(Walk):
    """A run in all bases of a part, from the base `start` on: the names hold terms.

    `end` is the number of the row at which it stops, or None; `steps` is what a paper tells of it.
    """

    def __init__(self, names, part):
        self.part = part
        self.held = {name: ZERO for name in names}
        self.came = {}
        self.start = 2
        self.end = None
        self.steps = []

    def whole(self, rows):
        """Does all rows."""
        try:
            self.go(rows, 0)
        except Stopped as stopped:
            self.end = stopped.at
            self.steps.append(("stop",))

    def put(self, row, at):
        """Lets a name hold the result of a deed."""
        given = [self.held[one] if isinstance(one, str) else one for one in row.given]
        term, told, start = done(row.deed, given, self.part)
        self.start = later(self.start, start)
        if term is None:
            raise Stopped(at)
        self.held[row.name] = term
        self.steps.append(("put", term) + told)

    def decide(self, test):
        """Whether a test holds for what the names hold."""
        ask, alike = bare(test)
        outcome, looks, start = asked(ask.word, [self.held[name] for name in ask.names], self.part)
        self.start = later(self.start, start)
        self.steps.append(("is", outcome == alike) + looks)
        return outcome == alike


def treks(program):
    """The list of the runs of a program, by the rests of the base."""
    found = []
    queue = [(0, 1)]
    while len(queue) > 0:
        trek = Trek(program.names, queue.pop())
        try:
            trek.whole(program.rows)
            found.append((trek.part, trek))
        except Uneven as uneven:
            queue.extend(finer(trek.part, uneven.factor))
    return by_rests(found)
