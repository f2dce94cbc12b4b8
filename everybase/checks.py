"""Whether a tale of a paper is right, step by step."""

from everybase.blocks import bare
from everybase.claims import right_put, right_stop, right_test
from everybase.errors import Stopped
from everybase.polys import ZERO
from everybase.runs import Walk
from everybase.spans import Span, term_told

# What is left of a tale when a row stops.
STOPS = (("stop",),)


class NotRight(Exception):
    """A step is not as it must be."""


class Check(Walk):
    """A run beside a tale of it: the names hold the terms that are told, and each step has to be right."""

    def __init__(self, names, span, steps):
        self.held = {name: ZERO for name in names}
        self.came = {}
        self.span = span
        self.steps = steps
        self.taken = 0

    def left(self):
        """The steps that were not taken."""
        return self.steps[self.taken:]

    def take_step(self, word):
        """What stands behind the word in the step that comes now, which has to be one with this word."""
        if self.taken == len(self.steps):
            raise NotRight()
        step = self.steps[self.taken]
        if not isinstance(step, tuple) or len(step) < 2 or step[0] != word:
            raise NotRight()
        self.taken = self.taken + 1
        return step[1:]

    def put(self, row, at):
        """Lets a name hold what is told."""
        given = [self.held[one] if isinstance(one, str) else one for one in row.given]
        # The step itself is not taken: it has to be the last one, whatever row it is that stops.
        if self.left() == STOPS and right_stop(self.span, row.deed, given):
            raise Stopped(at)
        told = self.take_step("put")
        term = term_told(told[0])
        if term is None or not right_put(self.span, row.deed, given, term, told[1:]):
            raise NotRight()
        self.held[row.name] = term

    def decide(self, test):
        """Whether a test holds, as is told."""
        ask, alike = bare(test)
        told = self.take_step("is")
        if not isinstance(told[0], bool):
            raise NotRight()
        terms = [self.held[name] for name in ask.names]
        if not right_test(self.span, ask.word, terms, told[0] == alike, told[1:]):
            raise NotRight()
        return told[0]


def tale_holds(program, since, part, tale):
    """Whether a value is a right tale of the bases of a part from some base on."""
    if not isinstance(tale, tuple):
        return False
    check = Check(program.names, Span(since, part), tale)
    try:
        check.go(program.rows, 0)
        return check.left() == ()
    except Stopped:
        return check.left() == STOPS
    except NotRight:
        return False
