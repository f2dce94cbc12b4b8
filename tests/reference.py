"""Runs in another way, to compare with: a text is done line by line, with jumps instead of blocks in blocks."""

import math
import random

INFIX = ("+", "-", "*", "//", "**")


class Halt(Exception):
    pass


def spelt(number, base):
    found = []
    while number:
        number, one = divmod(number, base)
        found.insert(0, one)
    return found or [0]


def value(figures, base):
    return sum(one * base ** at for at, one in enumerate(reversed(figures)))


def ends(lines):
    """Where each block's `else` (or None) and `end` are, by where it begins; and the number of each line's row."""
    open_blocks, found, numbers, number = [], {}, {}, 0
    for at, line in enumerate(lines):
        if line == "else":
            found[open_blocks[-1]] = (at, None)
        elif line == "end":
            begun = open_blocks.pop()
            found[begun] = (found.get(begun, (None, None))[0], at)
        else:
            numbers[at] = number
            number += 1
            if line.split()[0] in ("if", "times") and line.split()[1] != "=":
                open_blocks.append(at)
    return found, numbers


def reference(text, base, first=()):
    """What names hold at the end (None if it stops), the row at which it stops (None if not), the rows come to."""
    lines = text.split("\n") if text else []
    found, numbers = ends(lines)
    held, came = dict(first), []

    def do(start, stop):
        at = start
        while at < stop:
            words = lines[at].split()
            came.append(numbers[at])
            if words == ["stop"]:
                raise Halt()
            if words[1] == "=":
                put(words)
            else:
                behind_else, end = found[at]
                if words[0] == "times":
                    for _ in range(int(words[1])):
                        do(at + 1, end)
                elif asked(words[1:], held, base):
                    do(at + 1, end if behind_else is None else behind_else)
                elif behind_else is not None:
                    do(behind_else + 1, end)
                at = end
            at += 1

    def put(words):
        held[words[0]] = deed(words[2:], held, base)

    try:
        do(0, len(lines))
    except Halt:
        return None, came[-1], tuple(sorted(set(came)))
    return held, None, tuple(sorted(set(came)))


def asked(words, held, base):
    if words[0] == "not":
        return not asked(words[1:], held, base)
    told = [held.get(name, 0) for name in words[1:]]
    figures = spelt(told[0], base)
    return {
        "same": lambda: told[0] == told[1],
        "less": lambda: told[0] < told[1],
        "divides": lambda: any(told[0] * k == told[1] for k in (0, told[1] // max(1, told[0]))),
        "mirrored": lambda: figures == figures[::-1],
        "unlike": lambda: all(figures.count(one) == 1 for one in figures),
    }[words[0]]()


def halting(holds, work):
    if not holds:
        raise Halt()
    return work()


def deed(words, held, base):
    if len(words) == 3 and words[1] in INFIX:
        x, other = held.get(words[0], 0), words[2]
        y = int(other) if other.isdigit() else held.get(other, 0)
        return {
            "+": lambda: x + y, "-": lambda: halting(x >= y, lambda: x - y), "*": lambda: x * y,
            "//": lambda: halting(y, lambda: x // y), "**": lambda: math.prod([x] * y),
        }[words[1]]()
    word, given = words[0], words[1:]
    plain = [int(one) for one in given if one.isdigit()]
    told = [held.get(one, 0) for one in given if not one.isdigit()]
    some = spelt(told[0], base) if told else []
    return {
        "figures": lambda: halting(max(plain) < base, lambda: value(plain, base)),
        "number": lambda: plain[0],
        "base": lambda: base,
        "let": lambda: told[0],
        "rest": lambda: halting(told[1], lambda: told[0] - told[0] // told[1] * told[1]),
        "turned": lambda: value(some[::-1], base),
        "least": lambda: value(sorted(some), base),
        "greatest": lambda: value(sorted(some)[::-1], base),
        "sum": lambda: sum(some),
        "many": lambda: len(some),
        "root": lambda: 0 if told[0] == 0 else 1 + (told[0] - 1) % (base - 1),
        "figure": lambda: told[0] // base ** plain[0] % base,
        "first": lambda: value(some[:plain[0]], base),
        "last": lambda: told[0] % base ** plain[0],
        "joined": lambda: told[0] * base ** len(spelt(told[1], base)) + told[1],
        "common": lambda: math.gcd(told[0], told[1]),
        "lesser": lambda: min(told),
    }[word]()


class Maker:
    """Makes texts of programs by a row of numbers that is the same each time."""

    def __init__(self, seed):
        self.random = random.Random(seed)

    def name(self):
        return self.random.choice(("a", "b", "if", "sum"))

    def test(self):
        word = self.random.choice(("same", "less", "divides", "mirrored", "unlike"))
        names = [self.name() for _ in range(1 if word in ("mirrored", "unlike") else 2)]
        return " ".join(["not"] * self.random.randrange(3) + [word] + names)

    def put(self):
        x, y, pick = self.name(), self.name(), self.random.choice
        return f"{self.name()} = " + pick((
            f"figures {pick((1, 2, 5))} {pick((0, 1, 7))} {pick((0, 1, 3))}", f"figures {pick((0, 1, 4))}",
            f"number {pick((0, 1, 2, 17, 99))}", "base", "base", f"let {x}", f"{x} + {y}", f"{x} - {y}", f"{x} * {y}",
            f"{x} // {y}", f"rest {x} {y}", f"{x} ** {pick((0, 1, 2, 3))}", f"turned {x}", f"least {x}",
            f"greatest {x}", f"sum {x}", f"many {x}", f"root {x}", f"figure {pick((0, 1, 2))} {x}",
            f"first {pick((0, 1, 2))} {x}", f"last {pick((0, 1, 2))} {x}", f"joined {x} {y}", f"common {x} {y}",
            f"lesser {x} {y}",
        ))

    def lines(self, many, deep):
        found = []
        while many > 0:
            kind = self.random.randrange(12)
            if deep and kind < 3:
                inner = self.random.randrange(many)
                found += self.block(kind, inner, deep - 1)
                many -= inner + 1
            else:
                found.append("stop" if kind == 11 and self.random.random() < 0.3 else self.put())
                many -= 1
        return found

    def block(self, kind, many, deep):
        if kind == 0:
            return [f"times {self.random.randrange(4)}"] + self.lines(many, deep) + ["end"]
        behind = self.random.randrange(many + 1)
        others = ["else"] + self.lines(behind, deep) if behind else []
        return [f"if {self.test()}"] + self.lines(many - behind, deep) + others + ["end"]

    def text(self, many=9, deep=3):
        return "\n".join(self.lines(many, deep))
