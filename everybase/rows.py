"""The rows of a program and the tests in them: what they are made of and their text."""

from everybase.errors import InvalidRow
from everybase.kinds import is_name, is_number

# What stands behind each deed. `figures` takes as many numbers as are given,
# so its entry is that of the shortest row (see `needed`).
DEEDS = {
    "figures": ("number",),
    "number": ("number",),
    "base": (),
    "let": ("name",),
    "+": ("name", "name"),
    "-": ("name", "name"),
    "*": ("name", "name"),
    "//": ("name", "name"),
    "rest": ("name", "name"),
    "**": ("name", "number"),
    "turned": ("name",),
    "least": ("name",),
    "greatest": ("name",),
    "sum": ("name",),
    "many": ("name",),
    "root": ("name",),
    "figure": ("number", "name"),
    "first": ("number", "name"),
    "last": ("number", "name"),
    "joined": ("name", "name"),
    "common": ("name", "name"),
    "lesser": ("name", "name"),
}

# The deeds that are written between their arguments.
SIGNS = ("+", "-", "*", "//", "**")

# How many names stand behind the word of each test.
WORDS = {"same": 2, "less": 2, "divides": 2, "mirrored": 1, "unlike": 1}


class Row:
    """What all rows are; it is not made itself."""


class Test:
    """What all tests are; it is not made itself."""


class Put(Row):
    """Lets a name hold the result of a deed."""

    def __init__(self, name, deed, *given):
        if not is_name(name):
            raise InvalidRow("name")
        if not isinstance(deed, str) or deed not in DEEDS:
            raise InvalidRow("deed")
        if not _fits(deed, given):
            raise InvalidRow("given")
        self.name = name
        self.deed = deed
        self.given = given

    def __eq__(self, other):
        return isinstance(other, Put) and str(self) == str(other)

    def __str__(self):
        given = [str(one) for one in self.given]
        if self.deed in SIGNS:
            return f"{self.name} = {given[0]} {self.deed} {given[1]}"
        return " ".join([self.name, "=", self.deed, *given])


class If(Row):
    """Does its rows if the test holds, else the other ones."""

    def __init__(self, test, rows, others=()):
        if not isinstance(test, Test):
            raise InvalidRow("test")
        if not are_rows(rows) or not are_rows(others):
            raise InvalidRow("rows")
        self.test = test
        self.rows = tuple(rows)
        self.others = tuple(others)

    def __eq__(self, other):
        return isinstance(other, If) and str(self) == str(other)

    def __str__(self):
        lines = [f"if {self.test}", *texts(self.rows)]
        if len(self.others) > 0:
            lines = [*lines, "else", *texts(self.others)]
        return "\n".join([*lines, "end"])


class Times(Row):
    """Does its rows so many times."""

    def __init__(self, count, rows):
        if not is_number(count):
            raise InvalidRow("count")
        if not are_rows(rows):
            raise InvalidRow("rows")
        self.count = count
        self.rows = tuple(rows)

    def __eq__(self, other):
        return isinstance(other, Times) and str(self) == str(other)

    def __str__(self):
        return "\n".join([f"times {self.count}", *texts(self.rows), "end"])


class Stop(Row):
    """Stops the run."""

    def __eq__(self, other):
        return isinstance(other, Stop)

    def __str__(self):
        return "stop"


class Ask(Test):
    """Asks something of what one name holds, or two names hold."""

    def __init__(self, word, *names):
        if not isinstance(word, str) or word not in WORDS:
            raise InvalidRow("word")
        if len(names) != WORDS[word] or not all([is_name(one) for one in names]):
            raise InvalidRow("names")
        self.word = word
        self.names = names

    def __eq__(self, other):
        return isinstance(other, Ask) and str(self) == str(other)

    def __str__(self):
        return " ".join([self.word, *self.names])


class Not(Test):
    """Holds if its test does not."""

    def __init__(self, test):
        if not isinstance(test, Test):
            raise InvalidRow("test")
        self.test = test

    def __eq__(self, other):
        return isinstance(other, Not) and str(self) == str(other)

    def __str__(self):
        return f"not {self.test}"


def are_rows(value):
    """Whether the value is a list or a tuple of rows, and of nothing else."""
    return isinstance(value, (list, tuple)) and all([isinstance(one, Row) for one in value])


def texts(rows):
    """The texts of rows, one by one."""
    return [str(row) for row in rows]


def needed(deed, many):
    """What `many` arguments of a deed have to be: a tuple of "name" and "number"."""
    if deed == "figures":
        return DEEDS[deed] * max(1, many)
    return DEEDS[deed]


def _fits(deed, given):
    """Whether the arguments are as the deed needs them."""
    kinds = needed(deed, len(given))
    if len(given) != len(kinds):
        return False
    return all([_is_of(kind, one) for kind, one in zip(kinds, given)])


def _is_of(kind, value):
    """Whether the value is a name or a number, as the kind says."""
    if kind == "name":
        return is_name(value)
    return is_number(value)
