"""Papers looked at in another way, to compare with: polynomials are lists of fractions, clauses stand as in DOC.md."""

import math
from fractions import Fraction

from everybase.rows import If, Not, Put, Stop, Times


class Wrong(Exception):
    pass


class Ended(Exception):
    pass


def need(holds):
    if not holds:
        raise Wrong()


def integer(value):
    return type(value) is int


def trim(p):
    p = list(p)
    while p and p[-1] == 0:
        p.pop()
    return p


def told(value):
    need(type(value) is tuple and value and all(integer(one) for one in value) and value[0] >= 1)
    return trim(Fraction(one, value[0]) for one in value[1:])


def told_all(value):
    need(type(value) is tuple)
    return [told(one) for one in value]


def add(p, q):
    size = max(len(p), len(q))
    p, q = list(p) + [0] * (size - len(p)), list(q) + [0] * (size - len(q))
    return trim(a + b for a, b in zip(p, q))


def mul(p, q):
    found = [Fraction(0)] * (len(p) + len(q))
    for i, a in enumerate(p):
        for j, b in enumerate(q):
            found[i + j] += a * b
    return trim(found)


def sub(p, q):
    return add(p, [-one for one in q])


def num(k):
    return trim([Fraction(k)])


B = [Fraction(0), Fraction(1)]


def at(p, x):
    return sum(c * Fraction(x) ** k for k, c in enumerate(p))


def put_in(p, q):
    """p with q in the place of b."""
    found = []
    for c in reversed(p):
        found = add(mul(found, q), [c])
    return found


def number(figures):
    found = []
    for one in figures:
        found = add(mul(found, B), one)
    return found


class Tale:
    def __init__(self, first, rest, period, steps):
        need(type(steps) is tuple)
        self.first, self.rest, self.period, self.steps, self.done = first, rest, period, steps, 0
        self.held = {}

    def sure(self, p):
        return all(c >= 0 for c in put_in(p, [Fraction(self.first), Fraction(1)]))

    def at_most(self, p, q):
        return self.sure(sub(q, p))

    def less(self, p, q):
        return self.sure(sub(sub(q, p), num(1)))

    def whole(self, p):
        # An integer everywhere if it is in more places one behind another than its degree.
        return all(at(p, self.rest + self.period * t).denominator == 1 for t in range(-1, len(p) + 2))

    def spells(self, value, x):
        figures = told_all(value)
        need(figures)
        for one in figures:
            need(self.whole(one) and self.at_most([], one) and self.at_most(one, sub(B, num(1))))
        need(number(figures) == x)
        need(self.at_most(num(1), figures[0]) or (len(figures) == 1 and figures[0] == []))
        return figures

    def step(self):
        need(self.done < len(self.steps))
        step = self.steps[self.done]
        need(type(step) is tuple and step and type(step[0]) is str)
        self.done += 1
        return step

    def rows(self, rows):
        for row in rows:
            if isinstance(row, Times):
                for _ in range(row.count):
                    self.rows(row.rows)
            elif isinstance(row, If):
                self.rows(row.rows if self.test(row.test, self.step()) else row.others)
            elif isinstance(row, Stop):
                need(self.step() == ("stop",))
                raise Ended()
            elif isinstance(row, Put):
                self.put(row, self.step())

    def put(self, row, step):
        given = [self.held.get(one, []) if isinstance(one, str) else one for one in row.given]
        if step == ("stop",):
            need(row.deed in ("-", "//", "rest"))
            need(self.less(given[0], given[1]) if row.deed == "-" else given[1] == [])
            raise Ended()
        need(step[0] == "put" and len(step) >= 2)
        z = told(step[1])
        self.right(row.deed, given, z, step[2:])
        self.held[row.name] = z

    def right(self, deed, given, z, more):
        if deed in ("//", "rest"):
            need(len(more) == 2)
            q, r = told(more[0]), told(more[1])
            self.quotient(given[0], given[1], q, r)
            need(z == (q if deed == "//" else r))
        elif deed in ("turned", "sum", "many", "figure", "first", "last", "least", "greatest", "joined"):
            self.right_figures(deed, given, z, more)
        elif deed == "root":
            self.right_root(given[0], z, more)
        elif deed == "common":
            self.right_common(given[0], given[1], z, more)
        else:
            need(more == ())
            self.right_plain(deed, given, z)

    def quotient(self, x, y, q, r):
        need(x == add(mul(q, y), r) and self.at_most([], r) and self.less(r, y) and self.whole(q))

    def right_plain(self, deed, given, z):
        if deed == "figures":
            need(all(one < self.first for one in given))
            need(z == number([num(one) for one in given]))
        elif deed == "-":
            need(self.at_most(given[1], given[0]) and z == sub(given[0], given[1]))
        elif deed == "lesser":
            x, y = given
            need((z == x and self.at_most(x, y)) or (z == y and self.at_most(y, x)))
        elif deed == "**":
            found = num(1)
            for _ in range(given[1]):
                found = mul(found, given[0])
            need(z == found)
        else:
            need(z == {"number": lambda: num(given[0]), "base": lambda: B, "let": lambda: given[0],
                       "+": lambda: add(*given), "*": lambda: mul(*given)}[deed]())

    def right_figures(self, deed, given, z, more):
        need(len(more) == (2 if deed in ("least", "greatest") else 1))
        figures = self.spells(more[0], given[-1])
        n = len(figures)
        if deed in ("least", "greatest"):
            order = told_all(more[1])
            need(sorted(order) == sorted(figures))
            need(all(self.at_most(one, other) for one, other in zip(order, order[1:])))
            need(z == number(order if deed == "least" else order[::-1]))
        elif deed == "joined":
            power = num(1)
            for _ in range(n):
                power = mul(power, B)
            need(z == add(mul(given[0], power), given[1]))
        elif deed == "turned":
            need(z == number(figures[::-1]))
        elif deed == "sum":
            found = []
            for one in figures:
                found = add(found, one)
            need(z == found)
        elif deed == "many":
            need(z == num(n))
        elif deed == "figure":
            need(z == (figures[::-1] + [[]] * 20)[given[0]])
        elif deed == "first":
            need(z == number(figures[:given[0]]))
        else:
            need(z == number(figures[n - min(n, given[0]):]))

    def right_root(self, x, z, more):
        if more == ():
            need(x == [] and z == [])
            return
        need(len(more) == 1 and self.at_most(num(1), x))
        q, nine = told(more[0]), sub(B, num(1))
        need(self.whole(q) and sub(x, num(1)) == sub(add(mul(q, nine), z), num(1)))
        need(self.at_most(num(1), z) and self.at_most(z, nine))

    def right_common(self, x, y, z, more):
        if x == [] or y == []:
            need(more == () and z == (y if x == [] else x))
            return
        need(len(more) == 5)
        p, q = told(more[0]), told(more[1])
        u, v, w = more[2:]
        need(integer(u) and integer(v) and integer(w) and w >= 1)
        need(self.at_most(num(1), z) and self.whole(p) and self.whole(q))
        need(x == mul(z, p) and y == mul(z, q) and add(mul(num(u), p), mul(num(v), q)) == num(w))
        for one in (p, q):
            for c in put_in(one, [Fraction(self.rest), Fraction(self.period)])[1:]:
                need(c.denominator == 1 and c.numerator % w == 0)
        need(math.gcd(math.gcd(int(at(p, self.rest)), int(at(q, self.rest))), w) == 1)

    def test(self, test, step):
        need(step[0] == "is" and len(step) >= 2 and type(step[1]) is bool)
        outcome, looks = step[1], step[2:]
        while isinstance(test, Not):
            test, outcome = test.test, not outcome
        x, y = (test.names * 2)[:2]
        x, y = self.held.get(x, []), self.held.get(y, [])
        if test.word == "same":
            need(looks == ())
            need(x == y if outcome else self.less(x, y) or self.less(y, x))
        elif test.word == "less":
            need(looks == ())
            need(self.less(x, y) if outcome else self.at_most(y, x))
        elif test.word == "divides":
            self.divides(x, y, outcome, looks)
        else:
            need(len(looks) == 1)
            figures = self.spells(looks[0], x)
            pairs = [(one, other) for k, one in enumerate(figures) for other in figures[:k]]
            if test.word == "mirrored":
                ends = list(zip(figures, figures[::-1]))
                need(all(a == b for a, b in ends) if outcome else any(self.less(a, b) for a, b in ends))
            elif outcome:
                need(all(self.less(a, b) or self.less(b, a) for a, b in pairs))
            else:
                need(any(a == b for a, b in pairs))
        return step[1]

    def divides(self, x, y, outcome, looks):
        if looks == ():
            need(x == [] and (y == [] if outcome else self.at_most(num(1), y)))
            return
        need(len(looks) == 2 and self.at_most(num(1), x))
        q, r = told(looks[0]), told(looks[1])
        self.quotient(y, x, q, r)
        need(r == [] if outcome else self.at_most(num(1), r))


def right_paper(program, value):
    """Whether a value is a right paper for a program."""
    try:
        need(type(value) is tuple and len(value) == 3)
        first, period, tales = value
        need(integer(first) and first >= 2 and integer(period) and period >= 1)
        need(type(tales) is tuple and len(tales) == period)
        for rest, steps in enumerate(tales):
            tale = Tale(first, rest, period, steps)
            try:
                tale.rows(program.rows)
            except Ended:
                pass
            need(tale.done == len(tale.steps))
    except Wrong:
        return False
    return True
