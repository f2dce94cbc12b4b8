"""Papers, by which a run in all bases from some base on can be checked."""

from everybase.checks import tale_holds
from everybase.kinds import is_base, is_integer
from everybase.parts import latest
from everybase.treks import treks


def paper(program):
    """A right paper for a program: its first base, its period, and a tale for each rest."""
    runs = treks(program)
    return latest([trek.start for trek in runs]), len(runs), tuple([tuple(trek.steps) for trek in runs])


def paper_holds(program, value):
    """Whether a value is a right paper for a program."""
    if not isinstance(value, tuple) or len(value) != 3:
        return False
    first, period, tales = value
    if not is_base(first) or not is_integer(period):
        return False
    if not isinstance(tales, tuple) or len(tales) == 0 or len(tales) != period:
        return False
    for rest, tale in enumerate(tales):
        if not tale_holds(program, first, (rest, period), tale):
            return False
    return True
