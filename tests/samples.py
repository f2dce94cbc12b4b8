"""Values that several tests pass where something else is needed."""

from everybase import errors, programs, rows

X_LET_Y = rows.Put("x", "let", "y")
SAME = rows.Ask("same", "x", "y")

# Objects of the package and nested things: of these nothing is an integer or a string.
THINGS = (
    X_LET_Y, SAME, rows.Not(SAME), rows.Stop(), rows.Times(2, [X_LET_Y]), rows.If(SAME, [X_LET_Y]),
    errors.InvalidBase(), errors.NoRow(3),
    [], (), [0], (5,), [10], [[]], ((), [None, [1, (2, "x")]]), [[[[[[[[3]]]]]]]],
)
TEXTS = ("", "0", "5", "10", "b", "x", "abcd", "x y", "2.0", "None", "\n")
NO_INTEGERS = (True, False, None) + TEXTS + THINGS
NO_NUMBERS = NO_INTEGERS + (-1, -2, -(10 ** 60))
NO_BASES = NO_NUMBERS + (0, 1)
NO_NAMES = (
    "", "abcde", "X", "xY", "x1", "1", "x y", " x", "x ", "_", "a_b", "x\n", "\n", "x=", "-", "a" * 2000,
    "\u00e4", "\u00df", "\u03b1", "\uff41", "\ud800",
    0, 1, -1, 99, True, False, None,
) + THINGS
NO_SEQUENCES = (None, True, False, 0, 1, 12, -1) + TEXTS + THINGS[:8]
STOP = rows.Stop()
# What is passed in the place of rows, and of one row.
NO_ROWS = NO_SEQUENCES + (
    [None], ["stop"], ("x = base",), [X_LET_Y, SAME], (SAME,), [STOP, 0], [[X_LET_Y]], ((),), (STOP, (STOP,)),
    [X_LET_Y, None, X_LET_Y], [True], programs.Program([STOP]), programs.Sheet([STOP]),
)
NO_ROW = NO_ROWS[len(NO_SEQUENCES):] + (None, True, False, 0, 1, -1, "", "stop", "x = let y", SAME, rows.Not(SAME), (),
                                        [], [STOP], (X_LET_Y,), errors.InvalidRow("rows"), errors.NoRow(0))
# Numbers of rows that no program or sheet here has.
NO_PLACES = (-1, -2, -3, -100, 100, 10 ** 9, -(10 ** 30))


def program(*lines):
    """The program with these lines."""
    return programs.Program.read("\n".join(lines))


def fields(value):
    """All that an object holds, whatever its rows are, as texts and numbers."""
    if isinstance(value, (list, tuple)):
        return tuple(fields(one) for one in value)
    if hasattr(value, "__dict__"):
        return (type(value).__name__,) + tuple((name, fields(one)) for name, one in sorted(vars(value).items()))
    return repr(value)
