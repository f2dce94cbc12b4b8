"""Programs, and sheets on which the rows of one are put together."""

from everybase.blocks import changed, flat, names_in
from everybase.errors import InvalidRow, NoRow
from everybase.reading import rows_of
from everybase.rows import Row, are_rows, texts
from everybase.runs import run


class Program:
    """Rows that are done in their order; it never changes."""

    def __init__(self, rows=()):
        if not are_rows(rows):
            raise InvalidRow("rows")
        self.rows = tuple(rows)
        self.names = names_in(rows)

    @classmethod
    def read(cls, text):
        """The program of a text."""
        return cls(rows_of(text))

    def without(self, at):
        """The program without the row with a number."""
        if not 0 <= at < len(self):
            raise NoRow(at)
        return Program(changed(self.rows, at, ()))

    def replaced(self, at, row):
        """The program with another row in the place of the one with a number."""
        if not 0 <= at < len(self):
            raise NoRow(at)
        if not isinstance(row, Row):
            raise InvalidRow("rows")
        return Program(changed(self.rows, at, (row,)))

    def __call__(self, base):
        return run(self, base)

    def __len__(self):
        return len(flat(self.rows))

    def __getitem__(self, at):
        if not 0 <= at < len(self):
            raise NoRow(at)
        return flat(self.rows)[at]

    def __iter__(self):
        raise TypeError("a program is not iterable")

    def __add__(self, other):
        if not isinstance(other, Program):
            return NotImplemented
        return Program(self.rows + other.rows)

    def __eq__(self, other):
        return isinstance(other, Program) and self.rows == other.rows

    def __str__(self):
        return "\n".join(texts(self.rows))


class Sheet:
    """Rows that may be changed; a block counts as one."""

    def __init__(self, rows=()):
        if not are_rows(rows):
            raise InvalidRow("rows")
        self.held = tuple(rows)

    def drop(self, at):
        """Takes out the row with a number."""
        if not 0 <= at < len(self.held):
            raise NoRow(at)
        self.held = self.held[:at] + self.held[at + 1:]

    def made(self):
        """The program of the rows."""
        return Program(self.held)

    def trial(self):
        """A context manager; when its block is left, the sheet has its rows again."""
        return Trial(self)

    def within(self, work):
        """What `work` returns for the sheet, which has its rows again afterwards."""
        with self.trial() as sheet:
            return work(sheet)

    def __len__(self):
        return len(self.held)

    def __getitem__(self, at):
        if not 0 <= at < len(self.held):
            raise NoRow(at)
        return self.held[at]

    def __setitem__(self, at, worth):
        if not 0 <= at < len(self.held):
            raise NoRow(at)
        if not isinstance(worth, Row):
            raise InvalidRow("rows")
        self.held = self.held[:at] + (worth,) + self.held[at + 1:]

    def __iter__(self):
        raise TypeError("a sheet is not iterable")

    def __iadd__(self, other):
        if not isinstance(other, Row):
            raise InvalidRow("rows")
        self.held = self.held + (other,)
        return self


class Trial:
    """Keeps the rows of a sheet while a block is done, and gives them back."""

    def __init__(self, sheet):
        self.sheet = sheet
        self.held = ()

    def __enter__(self):
        self.held = self.sheet.held
        return self.sheet

    def __exit__(self, kind, value, trace):
        sheet = self.sheet
        sheet.held = self.held
