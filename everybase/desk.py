"""A desk, on which a program is put together and asked by commands."""

from everybase.books import book
from everybase.errors import InvalidCommand, Stopped
from everybase.figures import figures_of
from everybase.kinds import is_base, is_name
from everybase.programs import Program
from everybase.reading import number_told, row_of, test_of
from everybase.runs import run

MOST_DIGITS = 18


class Desk:
    """Keeps a program, and takes commands that change it or tell of it."""

    def __init__(self):
        self.program = Program()
        # The programs that were there ahead of each change that was not taken back.
        self.ahead = []

    def say(self, command):
        """Does a command and returns what it tells."""
        if not isinstance(command, str) or "\n" in command:
            raise InvalidCommand()
        words = command.split(" ")
        if "" in words:
            raise InvalidCommand()
        match words[0]:
            case "row":
                return self.keep(self.program + Program([_row_told(words[1:])]))
            case "drop":
                return self.keep(self.program.without(_number_told(words[1:])))
            case "read":
                return self.keep(Program.read(" ".join(words[1:]).replace(" ; ", "\n")))
            case "run":
                return _run_told(self.program, _number_told(words[1:]))
            case "worth":
                return _worth_told(self.program, words[1:2], _number_told(words[2:]))
            case "where":
                return _where_told(self.program, words[1:])
            case _:
                return _whole_told(self.program, words)

    def keep(self, program):
        """Goes on with another program; how many rows it has."""
        self.ahead.append(self.program)
        self.program = program
        return str(len(program))

    def undo(self):
        """Takes back the last change that was not taken back; whether there was one."""
        if len(self.ahead) == 0:
            return False
        self.program = self.ahead.pop()
        return True

    def __len__(self):
        return len(self.program)


def _row_told(words):
    """The row that words tell."""
    row = row_of(words)
    if row is None:
        raise InvalidCommand()
    return row


def _number_told(words):
    """The number that the one word tells."""
    number = number_told(words[0], MOST_DIGITS) if len(words) == 1 else None
    if number is None:
        raise InvalidCommand()
    return number


def _run_told(program, base):
    """What the names hold at the end of the run in a base."""
    if not is_base(base):
        raise InvalidCommand()
    try:
        held = run(program, base)
    except Stopped as stopped:
        return f"stops {stopped.at}"
    parts = [f"{name} {_dotted(figures_of(held[name], base))}" for name in program.names]
    return _between(parts)


def _dotted(figures):
    """Figures in decimal digits."""
    return ".".join([str(one) for one in figures])


def _worth_told(program, names, rest):
    """The term of a name in the tale of a rest."""
    if not all([is_name(name) for name in names]):
        raise InvalidCommand()
    tale = book(program).tale(rest)
    if isinstance(tale, int):
        return f"stops {tale}"
    name = names[0]
    return str(tale[name]) if name in tale else "0"


def _where_told(program, words):
    """The set of the bases in which a test holds at the end."""
    test = test_of(words)
    if test is None:
        raise InvalidCommand()
    return str(book(program).where(test))


def _whole_told(program, words):
    """What the program is, or where its book begins and what its period is."""
    if words == ["show"]:
        return _between(str(program).split("\n")) if len(program) > 0 else "-"
    if words == ["book"]:
        whole = book(program)
        return f"{whole.start} {whole.period}"
    raise InvalidCommand()


def _between(parts):
    """Parts of a text with what stands between them; a dash for none."""
    return " ; ".join(parts) if len(parts) > 0 else "-"
