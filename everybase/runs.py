"""Runs of programs in a told base."""

from everybase.blocks import flat
from everybase.deeds import holding, result
from everybase.errors import InvalidBase, Stopped
from everybase.kinds import is_base
from everybase.rows import If, Put, Stop, Times


def run(program, base):
    """The dict from the names of the program, ascending, to the numbers that they hold at the end."""
    walk = Walk(program.names, base)
    walk.go(program.rows, 0)
    return walk.held


def came_to(program, base):
    """The ascending tuple of the numbers of the rows to which the run comes."""
    walk = Walk(program.names, base)
    try:
        walk.go(program.rows, 0)
    except Stopped:
        # The row at which the run stops is come to, so it is noted already.
        pass
    return tuple([at for at in range(len(flat(program.rows))) if at in walk.came])


def holds(program, base, test):
    """Whether a test holds for what the names hold at the end."""
    return holding(test, run(program, base), base)


class Walk:
    """A run under way: what the names hold, and the numbers of the rows that it came to."""

    def __init__(self, names, among):
        if not is_base(among):
            raise InvalidBase()
        self.among = among
        self.held = {name: 0 for name in names}
        self.came = {}

    def go(self, rows, at):
        """Does rows, the first of which has this number."""
        for row in rows:
            self.came[at] = True
            self.do(row, at)
            at = at + len(flat([row]))

    def do(self, row, at):
        """Does the row with this number, and the rows within it."""
        if isinstance(row, Stop):
            raise Stopped(at)
        if isinstance(row, Put):
            self.put(row, at)
        elif isinstance(row, Times):
            for _ in range(row.count):
                self.go(row.rows, at + 1)
        elif isinstance(row, If):
            self.choose(row, at)

    def put(self, row, at):
        """Lets a name hold the result of a deed."""
        given = [self.held[one] if isinstance(one, str) else one for one in row.given]
        number = result(row.deed, given, self.among)
        if number is None:
            raise Stopped(at)
        self.held[row.name] = number

    def decide(self, test):
        """Whether a test holds for what the names hold."""
        return holding(test, self.held, self.among)

    def choose(self, row, at):
        """Does the rows of an `If`, or its others."""
        if self.decide(row.test):
            self.go(row.rows, at + 1)
        else:
            self.go(row.others, at + 1 + len(flat(row.rows)))
