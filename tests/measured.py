"""Measured programs ([3], [16]): some that show each deed and test, and as many others as are asked for."""

from everybase.measures import measures
from everybase.programs import Program
from everybase.reading import test_of
from tests.reference import Maker

BIG = (997, 1000, 1024, 5040, 7919, 10 ** 5 + 3, 10 ** 6 + 5, 10 ** 12, 10 ** 30)
# Of each deed some programs, in which it has several results by the base and its rests.
DEEDS = tuple(text.replace(" ; ", "\n") for text in (
    "x = figures 3 0 7", "x = figures 0 0 2 ; y = figures 35", "x = number 17", "x = number 0", "x = base ; y = let x",
    "x = base ; y = figures 2 3 ; z = x + y ; u = z * y", "x = base ; y = number 9 ; z = x - y ; u = z - x",
    "x = base ; y = number 9 ; z = y - x", "x = base ; y = base ; z = x - y ; u = x // z",
    "x = base ; y = number 4 ; z = x // y ; u = rest x y",
    "x = figures 1 1 ; y = figures 1 2 ; z = x // y ; u = rest x y",
    "x = number 5 ; y = base ; z = x // y ; u = rest x y", "x = base ; u = rest x z",
    "x = base ; u = z // x ; u = rest z x",
    "x = figures 1 1 ; y = x ** 3 ; z = x ** 0 ; u = a ** 0",
    "x = figures 2 0 0 ; y = number 3 ; z = x // y ; u = turned z",
    "x = figures 9 0 4 ; y = least x ; z = greatest x", "x = base ; y = number 7 ; y = x - y ; z = x * y ; z = least z",
    "x = figures 8 7 6 ; y = sum x ; z = many x ; u = root x", "y = sum x ; z = many x ; u = root x ; x = turned x",
    "x = base ; y = number 2 ; x = x - y ; x = x * x ; z = root x",
    "x = base ; x = x * x ; y = number 2 ; x = x // y ; z = root x ; u = sum x",
    "x = base ; y = root x ; z = x + x ; z = root z",
    "x = figures 4 5 6 ; y = figure 0 x ; z = figure 2 x ; u = figure 3 x",
    "x = figures 4 5 6 ; y = first 2 x ; z = last 2 x ; u = first 0 x",
    "x = base ; y = first 8 x ; z = last 8 x ; u = last 0 x",
    "x = figures 4 5 ; y = figures 7 ; z = joined x y ; u = joined z z", "x = base ; z = joined x y ; u = joined y x",
    "x = base ; y = number 12 ; z = common x y ; u = common y x", "x = figures 2 4 ; y = figures 3 3 ; z = common x y",
    "x = figures 2 4 ; y = figures 3 6 ; z = common x y", "x = base ; z = common x y ; u = common y x",
    "x = figures 1 1 0 ; y = number 2 ; x = x // y ; z = number 6 ; z = common z x",
    "x = number 12 ; y = number 18 ; z = common x y", "x = base ; y = number 2 ; x = x - y ; z = common x x",
    "x = base ; y = number 40 ; z = lesser x y ; u = lesser y x", "x = base ; z = lesser x x ; u = lesser x y",
))
TESTS = tuple(text.replace(" ; ", "\n") for text in (
    "x = base ; y = number 20 ; if same x y ; z = number 1 ; else ; z = number 2 ; end",
    "x = base ; y = let x ; if same x y ; stop ; end", "x = base ; y = number 20 ; if less x y ; stop ; end",
    "x = base ; y = number 20 ; if not not less y x ; z = number 1 ; end",
    "if less x y ; z = number 1 ; else ; stop ; end",
    "x = base ; y = number 6 ; if divides y x ; z = x // y ; end",
    "x = base ; if divides y x ; stop ; else ; if divides x y ; z = base ; end ; end",
    "x = base ; y = figures 1 0 1 ; if not divides x y ; z = rest y x ; end", "if divides x y ; z = base ; end",
    "x = figures 1 2 1 ; if mirrored x ; y = base ; end", "x = figures 1 2 3 ; if not mirrored x ; y = base ; end",
    "x = base ; y = number 30 ; if less y x ; y = x - y ; z = joined y x ; if mirrored z ; stop ; else ; u = let z ; "
    "end ; end",
    "x = figures 1 2 3 ; if unlike x ; y = base ; end", "x = figures 1 2 1 ; if unlike x ; stop ; end",
    "if unlike x ; x = base ; if mirrored x ; stop ; end ; end",
    "x = base ; times 3 ; x = x + x ; y = number 3 ; if divides y x ; y = base ; else ; times 2 ; z = z + y ; end ; "
    "end ; end",
    "x = base ; times 0 ; stop ; end ; y = number 2 ; times 4 ; x = x // y ; end", "stop",
    "times 2 ; if same x x ; end ; end",
    "x = base ; y = number 7 ; x = x - y ; x = x - y ; stop ; y = base", "",
))
SAMPLES = tuple(Program.read(text) for text in DEEDS + TESTS)


class Rich(Maker):
    """Its names hold something from the beginning."""

    def name(self):
        return self.random.choice("xyzu")

    def head(self):
        pick = self.random.choice
        number = pick((1, 2, 3, 4, 5, 6, 7, 8, 10, 12, 20, 30, 60, 99))
        long = " ".join(str(self.random.randrange(1 + pick((3, 8, 35)))) for _ in range(pick((1, 2, 3, 4))))
        return [f"{name} = " + pick((f"figures {long}", "base", f"number {number}", "figures 1 2", "figures 3 1"))
                for name in self.random.sample("xyzu", pick((2, 3, 3, 4)))]

    def text(self, many=9, deep=3):
        first = self.head()
        return "\n".join(first + self.lines(max(0, many - len(first)), deep))


def is_measured(program, test=None):
    """Whether a program, with a test beside it, is within the limits."""
    length, size, period = measures(program, test=test)
    return length <= 8 and size <= 2000 and period <= 360 and size * period <= 5000


def made(seed, many, rows=12):
    """So many programs, each with a test beside it, the same ones each time."""
    maker, found = Rich(seed), []
    while len(found) < many:
        program = Program.read(maker.text(maker.random.randrange(2, rows + 1)))
        test = test_of(maker.test().split(" "))
        if len(program) <= rows and is_measured(program, test):
            found.append((program, test))
    return found
