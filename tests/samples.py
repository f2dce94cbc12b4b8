"""Values that several tests pass where something else is needed."""

from everybase import errors, rows

X_LET_Y = rows.Put("x", "let", "y")
SAME = rows.Ask("same", "x", "y")

# Objects of the package and nested things: of these nothing is an integer or a string.
THINGS = (
    X_LET_Y, SAME, rows.Not(SAME), rows.Stop(), rows.Times(2, [X_LET_Y]), rows.If(SAME, [X_LET_Y]),
    errors.InvalidBase(), errors.NoRow(3),
    [], (), [0], (5,), [10], [[]], ((), [None, [1, (2, "x")]]), [[[[[[[[3]]]]]]]],
)
TEXTS = ("", "0", "5", "10", "b", "x", "abcd", "x y", "2.0", "None", "\n")
NO_INTEGERS = (True, False, None) + TEXTS + THINGS
NO_NUMBERS = NO_INTEGERS + (-1, -2, -(10 ** 60))
NO_BASES = NO_NUMBERS + (0, 1)
NO_NAMES = (
    "", "abcde", "X", "xY", "x1", "1", "x y", " x", "x ", "_", "a_b", "x\n", "\n", "x=", "-", "a" * 2000,
    "\u00e4", "\u00df", "\u03b1", "\uff41", "\ud800",
    0, 1, -1, 99, True, False, None,
) + THINGS
NO_SEQUENCES = (None, True, False, 0, 1, 12, -1) + TEXTS + THINGS[:8]
