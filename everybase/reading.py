"""Programs, rows and tests from their texts."""

from everybase.errors import InvalidRow, InvalidText
from everybase.rows import SIGNS, Ask, If, Not, Put, Stop, Times

DIGITS = "0123456789"
MOST_DIGITS = 9


def rows_of(text):
    """The tuple of the rows that are written in a text."""
    if text == "":
        return ()
    lines = text.split("\n")
    # The first one stands for the text itself, so there always is one that takes rows.
    blocks = [Block(None, None)]
    for at, line in enumerate(lines):
        if not _take_line(blocks, line.split(" ")):
            raise InvalidText(at)
    if len(blocks) > 1:
        raise InvalidText(len(lines))
    return tuple(blocks[0].rows)


def row_of(words):
    """The `Put` or `Stop` with the words of a line, or None if they are not those of one."""
    if words == ["stop"]:
        return Stop()
    if words[1:2] == ["="]:
        return _put_of(words[0], words[2:])
    return None


def test_of(words):
    """The test with these words, or None if they are not those of one."""
    many = 0
    while many < len(words) and words[many] == "not":
        many = many + 1
    test = _ask_of(words[many:])
    if test is None:
        return None
    for _ in range(many):
        test = Not(test)
    return test


def number_told(word, most):
    """The number that a word writes in at most so many digits, without leading zeros, or None if it writes none."""
    if not 1 <= len(word) <= most or not all([one in DIGITS for one in word]):
        return None
    if word[0] == "0" and word != "0":
        return None
    return int(word)


class Block:
    """A block from its first line on, while its `end` is not read."""

    def __init__(self, test, count):
        self.test = test
        self.count = count
        self.rows = []
        self.others = []
        self.behind_else = False

    def take(self, row):
        """Takes a row behind those that were read."""
        if self.behind_else:
            self.others.append(row)
        else:
            self.rows.append(row)

    def has_else(self):
        """Goes on behind an `else`; whether one may stand here."""
        if self.test is None or self.behind_else:
            return False
        self.behind_else = True
        return True

    def ended(self):
        """The row that the whole block is."""
        if self.test is None:
            return Times(self.count, self.rows)
        return If(self.test, self.rows, self.others)


def _take_line(blocks, words):
    """Adds what a line says to the blocks that it stands in; whether it may stand there."""
    if words == ["else"]:
        return blocks[-1].has_else()
    if words == ["end"]:
        return _take_end(blocks)
    row = row_of(words)
    if row is not None:
        blocks[-1].take(row)
        return True
    block = _block_of(words)
    if block is None:
        return False
    blocks.append(block)
    return True


def _take_end(blocks):
    """Ends the innermost block; whether there is one."""
    if len(blocks) == 1:
        return False
    block = blocks.pop()
    blocks[-1].take(block.ended())
    return True


def _block_of(words):
    """The block that a line with these words begins, or None if it begins none."""
    if words[0] == "if":
        test = test_of(words[1:])
        return None if test is None else Block(test, None)
    if words[0] == "times" and len(words) == 2:
        count = _plain(words[1])
        return None if isinstance(count, str) else Block(None, count)
    return None


def _put_of(name, words):
    """The `Put` with the words behind its `=`, or None if they are not those of one."""
    if len(words) == 3 and words[1] in SIGNS:
        deed = words[1]
        told = [words[0], words[2]]
    elif len(words) == 0 or words[0] in SIGNS:
        return None
    else:
        deed = words[0]
        told = words[1:]
    given = [_plain(word) for word in told]
    try:
        return Put(name, deed, *given)
    except InvalidRow:
        return None


def _ask_of(words):
    """The `Ask` with these words, or None if they are not those of one."""
    if len(words) == 0:
        return None
    names = words[1:]
    try:
        return Ask(words[0], *names)
    except InvalidRow:
        return None


def _plain(word):
    """The number that a word writes, or the word itself if it writes none."""
    number = number_told(word, MOST_DIGITS)
    return word if number is None else number
