"""How far a program can go, told from its rows ahead of any run.

What is known of a name is its mark: a tuple of its length, its size, whether
it is steady, and whether it is straight.
"""

from everybase.blocks import bare, flat
from everybase.rows import If, Put, Times

AT_FIRST = (1, 1, True, True)
# What is above counts as this, so that no measure grows without end.
MOST = 1000000

NOT_STEADY = ("//", "rest", "common")
NOT_STRAIGHT = ("turned", "least", "greatest", "first", "last")

# At each size the least number that all of 1 to this size divide; behind the last one it is MANY.
SHARED = (1, 1, 2, 6, 12, 60, 60)
MANY = 1000


def measures(program, *, test=None):
    """The greatest length and the greatest size of any name at any time, and the period at the end."""
    survey = Survey(program.names)
    survey.go(program.rows)
    if test is not None:
        survey.ask(test)
    return survey.length, survey.width, survey.period


class Survey:
    """What is known of a program as far as its rows were gone through."""

    def __init__(self, names):
        self.marks = {name: AT_FIRST for name in names}
        self.period = 1
        self.length = 1
        self.width = 1

    def go(self, rows):
        """Goes through rows."""
        for row in rows:
            if isinstance(row, Put):
                self.put(row)
            elif isinstance(row, If):
                self.fork(row)
            elif isinstance(row, Times):
                for _ in range(row.count):
                    self.go(row.rows)

    def put(self, row):
        """Goes through a `Put`."""
        plain = [one for one in row.given if not isinstance(one, str)]
        marks = [self.marks[one] for one in row.given if isinstance(one, str)]
        length, size = _reach(row.deed, plain, marks)
        self.length = _greater(self.length, _counted(length))
        self.width = _greater(self.width, _counted(size))
        self.stretch(_factor(row.deed, plain, marks, self.period))
        steady = row.deed not in NOT_STEADY and all([mark[2] for mark in marks])
        straight = row.deed not in NOT_STRAIGHT and all([mark[3] for mark in marks])
        self.marks[row.name] = (_counted(length), _counted(size), steady, straight)

    def ask(self, test):
        """Looks at a test."""
        ask, _ = bare(test)
        if ask.word == "divides":
            x, y = [self.marks.get(name, AT_FIRST) for name in ask.names]
            self.stretch(_quotients(y, x))

    def fork(self, row):
        """Goes through an `If`: both its ways begin with the marks from ahead of it."""
        self.ask(row.test)
        ahead = dict(self.marks)
        self.go(row.rows)
        done = dict(self.marks)
        self.marks = ahead
        self.go(row.others)
        given = [one.name for one in flat([row]) if isinstance(one, Put)]
        self.marks = {name: _both(done[name], self.marks[name], name in given) for name in done}

    def stretch(self, factor):
        """Multiplies the period."""
        self.period = _counted(self.period * _counted(factor))


def _both(one, other, given):
    """The mark behind a block of a name with these marks on its sides, to which a row within may give something."""
    length = _greater(one[0], other[0])
    size = _greater(one[1], other[1])
    return (length, size, one[2] and not given, one[3] and other[3])


def _reach(deed, plain, marks):
    """The length and the size of the result of a deed with these plain numbers and marks."""
    if deed == "figures":
        return len(plain), max(1, sum(plain))
    if deed == "number":
        return 1, max(1, plain[0])
    if deed == "base":
        return 2, 1
    if deed == "**":
        return plain[0] * (marks[0][0] - 1) + 1, _power(marks[0][1], plain[0])
    if len(marks) == 1:
        return _reach_of_one(deed, marks[0])
    return _reach_of_two(deed, marks[0], marks[1])


def _reach_of_one(deed, x):
    """The length and the size of the result of a deed with one name."""
    n, s = x[:2]
    match deed:
        case "let":
            return n, s
        case "sum":
            return 2, n * (s + 2)
        case "many":
            return 1, n
        case "root":
            return 2, s + 4
        case "figure":
            return 2, s + 2
        case _:
            return n, n * (s + 2)


def _reach_of_two(deed, x, y):
    """The length and the size of the result of a deed with two names."""
    n, s = x[:2]
    m, t = y[:2]
    match deed:
        case "+" | "-":
            return _greater(n, m), s + t
        case "*":
            return n + m - 1, s * t
        case "//":
            return n, _quotient_size(x, y)
        case "rest":
            return (1, t) if m == 1 else (m, t * _quotient_size(x, y) + s)
        case "joined":
            return n + m, s + t
        case _:
            return _greater(n, m), _greater(s, t)


def _quotient_size(x, y):
    """The size of the quotient of two names."""
    if y[0] == 1:
        return x[1] + 1
    return x[1] * _quotients(x, y) + 1


def _factor(deed, plain, marks, period):
    """What a deed multiplies the period by, which is told as it is ahead of the row."""
    if deed in ("//", "rest"):
        return _quotients(marks[0], marks[1])
    if deed == "common":
        return _divisors(marks[0], marks[1])
    if deed == "*" and not marks[0][2] and not marks[1][2]:
        return period
    if deed == "**" and not marks[0][2] and plain[0] in (2, 3):
        return _power(period, plain[0] - 1)
    return 1


def _quotients(x, y):
    """What the quotient and the rest of two names multiply the period by."""
    m, t, steady = y[:3]
    if m == 1:
        return t if steady else _shared(t)
    return _power(t, x[0]) if steady else MANY


def _divisors(x, y):
    """What the greatest common divisor of two names multiplies the period by."""
    if x[0] == 1 and y[0] == 1:
        return 1
    if x[0] == 1 or y[0] == 1:
        _, size, steady, _ = x if x[0] == 1 else y
        return size if steady else _shared(size)
    if x[0] == 2 and y[0] == 2 and all([x[2], x[3], y[2], y[3]]):
        return 2 * x[1] * y[1]
    return MANY


def _shared(size):
    """The least number that all of 1 to a size divide, or what counts as it."""
    return SHARED[size] if size < len(SHARED) else MANY


def _power(number, k):
    """The k-th power of a number from 1 on, or some power above MOST if it is above."""
    power = 1
    if number == 1:
        return power
    for _ in range(k):
        # Lengths are exponents, too: a whole power would be far too long.
        if power > MOST:
            break
        power = power * number
    return power


def _greater(one, other):
    """The greater one of two measures."""
    return other if other > one else one


def _counted(number):
    """What a measure counts as."""
    return MOST if number > MOST else number
