"""The errors of this package.

Each one keeps what it is made with, the very object, in an attribute that is
called like the argument.
"""


class FigureError(ValueError):
    """Something that this package was passed, or does, is not as it must be."""


class InvalidBase(FigureError):
    """A base is not an integer from 2 on."""


class InvalidNumber(FigureError):
    """A number is not an integer from 0 on."""


class NoFigure(FigureError):
    """The item with this index is no figure in the base."""

    def __init__(self, at):
        self.at = at


class InvalidRow(FigureError):
    """A part of a row, a test or a program is wrong: the word tells which."""

    def __init__(self, word):
        self.word = word


class InvalidText(FigureError):
    """The line with this number cannot stand in a program."""

    def __init__(self, at):
        self.at = at


class Stopped(FigureError):
    """A run stops at the row with this number."""

    def __init__(self, at):
        self.at = at


class InvalidTerm(FigureError):
    """A part of a term is wrong: the word tells which."""

    def __init__(self, word):
        self.word = word


class NotWhole(FigureError):
    """The value of a term is not an integer."""


class InvalidWorth(FigureError):
    """A worth cannot be made of this: the word tells what is wrong."""

    def __init__(self, word):
        self.word = word


class InvalidCommand(FigureError):
    """A desk does not know this command."""


class NoRow(IndexError):
    """There is no row with this number."""

    def __init__(self, at):
        self.at = at


class NoPlace(IndexError):
    """A set of bases has no base at this place."""

    def __init__(self, at):
        self.at = at


class NoName(KeyError):
    """This is no name."""

    def __init__(self, name):
        self.name = name
