"""[29] to [36], and of [4] the papers: right ones, the same ones with something otherwise, what they tell of runs."""

import random
import unittest

from everybase.bases import Bases
from everybase.papers import paper, paper_holds
from everybase.programs import Program
from everybase.terms import Term
from everybase.worths import Worth
from tests.measured import SAMPLES, is_measured, made
from tests.reference import reference
from tests.reference_papers import right_paper
from tests.samples import NO_BASES, NO_INTEGERS, THINGS, fields, program

BASE = ("put", (1, 0, 1))


def lines(text):
    return program(*text.split(" ; "))


def paths(value, ahead=()):
    yield ahead
    if isinstance(value, tuple):
        for at, one in enumerate(value):
            yield from paths(one, ahead + (at,))


def found_at(value, path):
    for at in path:
        value = value[at]
    return value


def placed(value, path, one):
    if not path:
        return one
    at = path[0]
    return value[:at] + (placed(value[at], path[1:], one),) + value[at + 1:]


def changed(chance, value):
    """The value with something in it otherwise, more, less or twice."""
    path = chance.choice(list(paths(value)))
    old = found_at(value, path)
    if isinstance(old, bool):
        new = chance.choice((not old, 1, 0, None))
    elif isinstance(old, int):
        new = chance.choice((old + 1, old - 1, -old, old * 2, 0, 1, True, None, str(old), (old,),
                             old + chance.randrange(-5, 6)))
    elif isinstance(old, str):
        new = chance.choice(("put", "stop", "is", "", old + " ", None))
    elif not isinstance(old, tuple):
        new = (old,)
    elif old and chance.random() < 0.4:
        at, by = chance.randrange(len(old)), chance.randrange(len(old))
        new = chance.choice((old[:at] + old[at + 1:], old[:at] + old[by:], old[:at] + (old[by],) + old[at + 1:],
                             list(old)))
    elif old and all(type(one) is int for one in old):
        times = chance.choice((2, 3, 5))
        new = chance.choice((tuple(one * times for one in old), old + (0,), old + (0, 0), (old[0] * 2,) + old[1:]))
    else:
        new = chance.choice((old + ((),), old + (0,), old + ((1,),), found_at(value,
            chance.choice(list(paths(value))))))
    return placed(value, path, new)


class Steps(unittest.TestCase):
    """One step of one program: right ones and wrong ones, in all bases from a first one on with one rest."""

    def assert_steps(self, text, ahead, right, wrong, first=10, behind=()):
        """Of a program with these rows: the steps ahead of the one in question, and those behind it."""
        one = lines(text)
        for step, holds in [(step, True) for step in right] + [(step, False) for step in wrong]:
            told = (first, 1, (tuple(ahead) + (step,) + tuple(behind),))
            self.assertIs(paper_holds(one, told), holds, (text, step))
            self.assertIs(right_paper(one, told), holds, (text, step))

    def test_figures(self):
        self.assert_steps("x = figures 1 0 7", (), [("put", (1, 7, 0, 1)), ("put", (2, 14, 0, 2)),
                                                    ("put", (1, 7, 0, 1, 0, 0))],
                          [("put", (1, 7, 1)), ("put", (1, 1, 0, 7)), ("put", (0, 7, 0, 1)), ("put", (-1, -7, 0, -1)),
                           ("put",),
                           ("put", (1, 7, 0, 1), (1, 7)), ("stop",), ("is", True), ("put", [1, 7, 0, 1]), ("put", 107),
                           ["put", (1, 7, 0, 1)], ("puts", (1, 7, 0, 1)), (), "put", None, 0,
                           ("put", (1, 7, False, True)), ("put", ())])
        one = lines("x = figures 1 9")
        self.assertEqual([paper_holds(one, (first, 1, ((("put", (1, 9, 1)),),))) for first in (8, 9, 10, 11)],
                         [False, False, True, True])

    def test_plain_deeds(self):
        self.assert_steps("x = number 6", (), [("put", (1, 6)), ("put", (3, 18, 0))],
                          [("put", (1, 7)), ("put", (6,)), ("put", (1, 6), ())])
        self.assert_steps("x = number 0", (), [("put", (1,)), ("put", (5, 0, 0))], [("put", (1, 1)), ("put", ())])
        self.assert_steps("x = base", (), [BASE, ("put", (4, 0, 4))], [("put", (1, 1)), ("put", (4, 0, 1)),
            ("put", (1, 0, 1, 1))])
        self.assert_steps("x = base ; y = let x", (BASE,), [BASE], [("put", (1,)), ("put", (1, 0, 2))])
        self.assert_steps("x = base ; y = x + x", (BASE,), [("put", (1, 0, 2))], [BASE, ("put", (2, 0, 2))])
        self.assert_steps("x = base ; y = x * x", (BASE,), [("put", (1, 0, 0, 1))], [BASE, ("put", (1, 0, 1, 1))])
        self.assert_steps("x = base ; y = x ** 3", (BASE,), [("put", (1, 0, 0, 0, 1))], [BASE, ("put", (1, 0, 0, 1))])
        self.assert_steps("x = y ** 0", (), [("put", (1, 1))], [("put", (1,))])

    def test_differences(self):
        ahead = (BASE, ("put", (1, 12)))
        self.assert_steps("x = base ; y = number 12 ; z = x - y", ahead, [("put", (1, -12, 1))],
                          [("stop",), ("put", (1, 12, 1))], first=12)
        self.assert_steps("x = base ; y = number 12 ; z = x - y", ahead, [], [("put", (1, -12, 1)), ("stop",)],
                          first=11)
        self.assert_steps("x = base ; y = number 12 ; z = y - x", ahead, [("stop",)],
                          [("put", (1, 12, -1)), ("stop", ()), ("stop", 0)], first=13)
        self.assert_steps("x = base ; y = number 12 ; z = y - x", ahead, [], [("stop",), ("put", (1, 12, -1))],
                          first=12)
        self.assert_steps("x = base ; y = x - x", (BASE,), [("put", (1,))], [("stop",)])
        # All values of b ** 2 - 11 * b + 35 are above 0, but the sign row has -1 in it from 5 on.
        ahead = (BASE, ("put", (1, 11)), ("put", (1, 0, 11)), ("put", (1, 0, 0, 1)), ("put", (1, 35)),
                 ("put", (1, 35, 0, 1)))
        text = "x = base ; y = number 11 ; u = x * y ; x = x * x ; y = number 35 ; x = x + y ; z = x - u"
        self.assert_steps(text, ahead, [("put", (1, 35, -11, 1))], [("stop",)], first=6)
        self.assert_steps(text, ahead, [], [("put", (1, 35, -11, 1)), ("stop",)], first=5)

    def test_stops(self):
        self.assert_steps("x = base ; stop ; x = base", (BASE,), [("stop",)],
                          [BASE, ("put",), ("is", True), ("stop", "stop"), ["stop"]])
        self.assert_steps("x = base ; stop", (), [], [BASE])
        self.assert_steps("x = base ; stop", (BASE, ("stop",)), [], [("stop",), BASE])
        self.assert_steps("x = base", (BASE,), [], [("stop",), BASE])

    def test_lesser(self):
        text, ahead = "x = base ; y = number 12 ; z = lesser x y", (BASE, ("put", (1, 12)))
        self.assert_steps(text, ahead, [("put", (1, 12))], [BASE, ("put", (1, 11)), ("stop",)], first=12)
        self.assert_steps(text, ahead, [], [("put", (1, 12)), BASE], first=11)
        self.assert_steps("x = base ; y = lesser x x", (BASE,), [BASE], [("put", (1,))])

    def test_quotients_and_rests(self):
        ahead = (("put", (1, 3, 2)), ("put", (1, 1, 1)))
        for deed, z in (("x // y", (1, 2)), ("rest x y", (1, 1))):
            text = f"x = figures 2 3 ; y = figures 1 1 ; z = {deed}"
            self.assert_steps(text, ahead, [("put", z, (1, 2), (1, 1)), ("put", z, (2, 4), (1, 1, 0))], [
                ("put", z), ("put", z, (1, 2)), ("put", z, (1, 1), (1, 2)), ("put", z, (1, 1), (1, 2, 1)),
                ("put", (1, 3), (1, 2), (1, 1)),
                ("put", z, (1, 3), (1, 0, -1)), ("put", z, (1, 2), (1, 1), ()), ("stop",), ("put", z, [1, 2], (1, 1)),
                ("put", z, 2, 1),
                ("put", z, (1, 2), (True, 1))])
        text = "x = base ; y = z // x ; y = x // z"
        self.assert_steps(text, (BASE, ("put", (1,), (1,), (1,))), [("stop",)],
                          [("put", (1,), (1,), (1,)), ("put", (1, 0, 1), (1,), (1, 0, 1))])
        self.assert_steps("x = rest y y", (), [("stop",)], [("put", (1,), (1,), (1,))])

    def test_quotients_are_whole(self):
        one = lines("x = base ; y = number 2 ; z = x // y")
        even = (BASE, ("put", (1, 2)), ("put", (2, 0, 1), (2, 0, 1), (1,)))
        odd = (BASE, ("put", (1, 2)), ("put", (2, -1, 1), (2, -1, 1), (1, 1)))
        for told, holds in (((2, 2, (even, odd)), True), ((2, 2, (odd, even)), False), ((2, 2, (even, even)), False),
                            ((2, 1, (even,)), False),
                            ((2, 4, (even, odd) * 2), True), ((2, 3, (even, odd, even)), False),
                            ((2, 1, (odd,)), False)):
            self.assertIs(paper_holds(one, told), holds)
            self.assertIs(right_paper(one, told), holds)

    def test_what_is_spelt(self):
        spelt, ahead = ((1, 4), (1,), (1, 7)), (("put", (1, 7, 0, 4)),)
        for deed, z in (("turned x", (1, 4, 0, 7)), ("sum x", (1, 11)), ("many x", (1, 3)), ("figure 0 x", (1, 7)),
                        ("figure 2 x", (1, 4)),
                        ("figure 3 x", (1,)), ("first 2 x", (1, 0, 4)), ("first 0 x", (1,)),
                        ("first 9 x", (1, 7, 0, 4)),
                        ("last 2 x", (1, 7)), ("last 0 x", (1,)), ("last 3 x", (1, 7, 0, 4))):
            self.assert_steps(f"x = figures 4 0 7 ; y = {deed}", ahead,
                              [("put", z, spelt), ("put", z, ((2, 8), (3, 0), (1, 7, 0)))], [
                ("put", z), ("put", z, ()), ("put", z, spelt[1:]), ("put", z, ((1,),) + spelt),
                ("put", z, spelt, spelt), ("put", (1, 5), spelt),
                ("put", z, list(spelt)), ("put", z, ((1, 4), (1, 1), (1, 7, -1))),
                ("put", z, ((1, 3), (1, 0, 1), (1, 7))), ("put", z, spelt[::-1]),
                ("put", z, (4, 0, 7)), ("put", z, ((1, 4), (1, -1), (1, 7, 1))), ("stop",)])
        self.assert_steps("y = turned x", (), [("put", (1,), ((1,),)), ("put", (1,), ((5, 0),))],
                          [("put", (1,), ()), ("put", (1,), ((1,), (1,))), ("put", (1,)),
                           ("put", (1,), ((1, 1), (1, 0, -1)))])
        self.assert_steps("y = many x", (), [("put", (1, 1), ((1,),))],
                          [("put", (1,), ((1,),)), ("put", (1, 2), ((1,), (1,)))])

    def test_what_is_spelt_from_a_base_on(self):
        one = lines("x = base ; y = number 7 ; x = x - y ; x = sum x")
        told = ((BASE, ("put", (1, 7)), ("put", (1, -7, 1)), ("put", (1, -7, 1), ((1, -7, 1),))),)
        self.assertEqual([paper_holds(one, (first, 1, told)) for first in (6, 7, 8)], [False, False, True])
        one = lines("x = number 12 ; x = sum x")
        told = ((("put", (1, 12)), ("put", (1, 12), ((1, 12),))),)
        self.assertEqual([paper_holds(one, (first, 1, told)) for first in (12, 13)], [False, True])

    def test_spelt_figures_are_whole(self):
        one = lines("x = base ; y = number 2 ; x = x // y ; x = sum x")
        even = (BASE, ("put", (1, 2)), ("put", (2, 0, 1), (2, 0, 1), (1,)), ("put", (2, 0, 1), ((2, 0, 1),)))
        odd = (BASE, ("put", (1, 2)), ("put", (2, -1, 1), (2, -1, 1), (1, 1)), ("put", (2, -1, 1), ((2, -1, 1),)))
        self.assertTrue(paper_holds(one, (3, 2, (even, odd))))
        self.assertFalse(paper_holds(one, (2, 2, (even, odd))))
        # Half of the base and no unit more are the figures of a number that is not whole.
        one = lines("x = base ; x = sum x")
        self.assertTrue(paper_holds(one, (2, 1, ((BASE, ("put", (1, 1), ((1, 1), (1,)))),))))
        self.assertFalse(paper_holds(one, (2, 1, ((BASE, ("put", (2, 1, 1), ((2, 1), (2, 0, 1)))),))))
        self.assertFalse(right_paper(one, (2, 1, ((BASE, ("put", (2, 1, 1), ((2, 1), (2, 0, 1)))),))))

    def test_joined(self):
        ahead = (("put", (1, 7, 0, 4)), ("put", (1, 5)))
        text = "x = figures 4 0 7 ; y = number 5 ; z = joined x y"
        self.assert_steps(text, ahead, [("put", (1, 5, 7, 0, 4), ((1, 5),))],
                          [("put", (1, 5, 7, 0, 4)), ("put", (1, 5, 7, 0, 4), ((1, 4), (1,), (1, 7))),
                           ("put", (1, 5, 7, 0, 4), ((1,), (1, 5))),
                           ("put", (1, 12, 0, 4), ((1, 5),)), ("put", (1, 5, 7, 0, 4), ((1, 5),), ())])
        self.assert_steps("x = base ; z = joined x y", (BASE,), [("put", (1, 0, 0, 1), ((1,),))],
                          [("put", BASE[1], ()), ("put", BASE[1], ((1,),))])

    def test_orders(self):
        spelt, order, ahead = ((1, 4), (1,), (1, 7), (1, 4)), ((1,), (1, 4), (1, 4),
                                                               (1, 7)), (("put", (1, 4, 7, 0, 4)),)
        for deed, z in (("least", (1, 7, 4, 4)), ("greatest", (1, 0, 4, 4, 7))):
            self.assert_steps(f"x = figures 4 0 7 4 ; y = {deed} x", ahead,
                              [("put", z, spelt, order), ("put", z, spelt, ((3, 0),) + order[1:])], [
                ("put", z, spelt), ("put", z), ("put", z, order, spelt), ("put", z, spelt, spelt),
                ("put", z, spelt, order[::-1]),
                ("put", z, spelt, order[1:]), ("put", z, spelt, order + ((1, 7),)),
                ("put", z, spelt, ((1,), (1, 4), (1, 7), (1, 7))),
                ("put", (1, 7, 4), spelt, order), ("put", z, spelt, list(order)), ("put", z, spelt, order, ()),
                ("put", z, spelt, (0, 4, 4, 7))])
        self.assert_steps("x = figures 4 0 7 4 ; y = least x", ahead, [], [("put", (1, 0, 4, 4, 7), spelt, order)])
        one = lines("x = base ; y = number 30 ; x = x - y ; x = joined x y ; x = least x")
        for first, holds in ((59, False), (60, True)):
            part, wide = (1, -30, 1), (1, 30)
            told = (first, 1, ((BASE, ("put", (1, 30)), ("put", part), ("put", (1, 30, -30, 1), (wide,)),
                                ("put", (1, -30, 31), (part, wide), (wide, part))),))
            self.assertIs(paper_holds(one, told), holds)

    def test_root(self):
        ahead = (("put", (1, 7, 0, 4)),)
        self.assert_steps("x = figures 4 0 7 ; y = root x", ahead, [("put", (1, 11), (1, 4, 4))],
                          [("put", (1, 11)), ("put", (1, 11), (1, 4)), ("put", (1, 10), (1, 4, 4)),
                           ("put", (1, 10, 1), (1, 3, 4)), ("put", (1,)),
                           ("put", (1, 12, -1), (1, 5, 4)), ("put", (1, 11), (1, 4, 4), ()), ("put", (1, 11), 4)],
                           first=12)
        self.assert_steps("x = figures 4 0 7 ; y = root x", ahead, [], [("put", (1, 11), (1, 4, 4))], first=11)
        self.assert_steps("y = root x", (), [("put", (1,)), ("put", (7, 0))],
                          [("put", (1, 1)), ("put", (1,), (1,)), ("put", (1, -1, 1), (1, -1))])
        self.assert_steps("x = base ; x = root x", (BASE,), [("put", (1, 1), (1, 1))],
                          [("put", (1, 0, 1), (1,)), ("put", (1, 1)), ("put", (1,), (1, 1))], first=2)

    def test_common_of_0(self):
        self.assert_steps("x = base ; z = common x y", (BASE,), [BASE],
                          [("put", (1,)), BASE + ((1, 1), (1,), 1, 0, 1), ("put", (1, 1))])
        self.assert_steps("x = base ; z = common y x", (BASE,), [BASE], [("put", (1,)), BASE + ((1,), (1, 1), 0, 1, 1)])
        self.assert_steps("z = common y x", (), [("put", (1,))], [("put", (1, 1)), ("put", (1,), (1,), (1,), 1, 1, 1)])

    def test_common(self):
        # 2 b + 3 and b + 1 have the difference b + 2 and so no common divisor; twice the one less the other is 1.
        ahead, x, y = (("put", (1, 3, 2)), ("put", (1, 1, 1))), (1, 3, 2), (1, 1, 1)
        self.assert_steps("x = figures 2 3 ; y = figures 1 1 ; z = common x y", ahead,
                          [("put", (1, 1), x, y, 1, -2, 1)],
                          [("put", (1, 1)), ("put", (1, 1), x, y, 1, -2), ("put", (1, 1), y, x, 1, -2, 1),
                           ("put", (1, 1), x, y, -1, 2, 1),
                           ("put", (1, 1), x, y, 1, -2, -1), ("put", (1, 1), x, y, 2, -4, 2),
                           ("put", (1, 1), x, y, 1, -2, 1, 0),
                           ("put", (1, 1), x, y, True, -2, 1), ("put", (1, 1), x, y, 1, -2, True),
                           ("put", (1, 1), x, y, (1, 1), -2, 1),
                           ("put", (1, 1), x, y, 0, 0, 0), ("put", (1, -1), (1, -3, -2), (1, -1, -1), -1, 2, 1),
                           ("stop",)])
        # b and 6, in the bases of one rest by 6.
        one = lines("x = base ; y = number 6 ; z = common x y")

        def tales(period, z=(6, 1, 2, 3, 2, 1), w=None):
            return tuple((BASE, ("put", (1, 6)), ("put", (1, z[r % 6]), (z[r % 6], 0, 1), (1, 6 // z[r % 6]), 0, 1,
                                                  w or 6 // z[r % 6])) for r in range(period))

        for told, holds in (((2, 6, tales(6)), True), ((2, 12, tales(12)), True), ((2, 3, tales(3)), False),
                            ((2, 6, tales(6, w=6)), False),
                            ((2, 6, tales(6, (6, 1, 1, 3, 2, 1))), False),
                            ((2, 6, tales(6, (6, 1, 2, 3, 1, 1))), False),
                            ((2, 6, tales(6, (6, 1, 2, 3, 2, 2))), False),
                            ((2, 6, tales(6, (3, 1, 2, 3, 2, 1))), False)):
            self.assertIs(paper_holds(one, told), holds)
            self.assertIs(right_paper(one, told), holds)

    def test_common_with_coefficients_that_are_not_whole(self):
        # b * (b - 1) / 2 goes by 3 in the bases of one rest by 3, but its coefficients are halves there.
        one = lines("x = base ; y = number 1 ; u = x - y ; x = x * u ; y = number 2 ; x = x // y ; y = number 3 ; "
                    "z = common x y")
        half = (2, 0, -1, 1)

        def tales(period):
            found = []
            for r in range(period):
                z = 1 if r % 3 == 2 else 3
                found.append((BASE, ("put", (1, 1)), ("put", (1, -1, 1)), ("put", (1, 0, -1, 1)), ("put", (1, 2)),
                              ("put", half, half, (1,)), ("put", (1, 3)),
                              ("put", (1, z), (2 * z, 0, -1, 1), (1, 3 // z), 0, 1, 3 // z)))
            return tuple(found)

        for period, holds in ((6, True), (12, True), (3, False), (9, False), (1, False), (2, False)):
            self.assertIs(paper_holds(one, (3, period, tales(period))), holds, period)
            self.assertIs(right_paper(one, (3, period, tales(period))), holds, period)

    def test_common_with_a_rest(self):
        # By 2 the coefficients of b ** 3 are divisible by 8 along the even bases, but not along the odd ones.
        one = lines("x = base ; x = x ** 3 ; y = number 8 ; z = common x y")
        cube = ("put", (1, 0, 0, 0, 1))
        even = (BASE, cube, ("put", (1, 8)), ("put", (1, 8), (8, 0, 0, 0, 1), (1, 1), 0, 1, 1))
        odd = (BASE, cube, ("put", (1, 8)), ("put", (1, 1), (1, 0, 0, 0, 1), (1, 8), 0, 1, 8))
        for period, holds in ((8, True), (2, False), (4, False), (16, True)):
            told = (2, period, (even, odd) * (period // 2))
            self.assertIs(paper_holds(one, told), holds, period)
            self.assertIs(right_paper(one, told), holds, period)

    def test_common_with_other_numbers(self):
        # 7 * 1 - 3 * 2 is 1, too; 14 and 6 have 2 in common.
        ahead = (("put", (1, 14)), ("put", (1, 6)))
        self.assert_steps("x = number 14 ; y = number 6 ; z = common x y", ahead,
                          [("put", (1, 2), (1, 7), (1, 3), u, v, 7 * u + 3 * v) for u,
                           v in ((1, -2), (-2, 5), (1, 0), (0, 1), (1, 1))],
                          [("put", (1, 1), (1, 14), (1, 6), 1, -2, 2), ("put", (1, 2), (1, 7), (1, 3), 0, 0, 0),
                           ("put", (1, 2), (1, 7), (1, 3), -1, 2, -1),
                           ("put", (1, 4), (2, 7), (2, 3), 2, -4, 1), ("put", (1, 1), (1, 14), (1, 6), 1, 1, 20)])

    def test_same_and_less(self):
        text, ahead = "x = base ; y = number 12 ; if {} ; end", (BASE, ("put", (1, 12)))
        for test, outcome, first in (("same x y", False, 13), ("same x x", True, 2), ("less y x", True, 13),
                                     ("less x y", False, 12), ("less x x", False, 2),
                                     ("not same x y", True, 13), ("not not less y x", True, 13),
                                     ("not less x x", True, 2)):
            one = text.format(test)
            self.assert_steps(one, ahead, [("is", outcome)], [("is", not outcome), ("is", int(outcome)), ("is",),
                                                              ("is", outcome, ()), ("is", outcome, (1,)),
                                                             ("put", outcome), ("is", None), ["is", outcome],
                                                             ("stop",)], first=first)
            if first > 2:
                self.assert_steps(one, ahead, [], [("is", outcome), ("is", not outcome)], first=first - 1)

    def test_divides(self):
        text, ahead = "x = base ; y = figures 1 2 ; if {} ; end", (BASE, ("put", (1, 2, 1)))
        self.assert_steps(text.format("divides x y"), ahead, [("is", False, (1, 1), (1, 2)),
                                                              ("is", False, (2, 2), (1, 2, 0))],
                          [("is", True, (1, 1), (1, 2)), ("is", False), ("is", False, (1, 1)),
                           ("is", False, (1,), (1, 2, 1)), ("is", False, (1, 1), (1, 2), ()),
                           ("is", False, (1, 2), (1, 2, -1)), ("is", False, 1, 2), ("is", False, ((1, 1), (1, 2)))],
                           first=3)
        self.assert_steps(text.format("divides x y"), ahead, [], [("is", False, (1, 1), (1, 2)),
                                                                  ("is", True, (1, 2), (1,))], first=2)
        self.assert_steps(text.format("not divides x x"), ahead, [("is", False, (1, 1), (1,))],
                          [("is", True, (1, 1), (1,)), ("is", False)], first=3)
        self.assert_steps(text.format("divides y x"), ahead, [("is", False, (1,), (1, 0, 1))],
                          [("is", True, (1,), (1, 0, 1)), ("is", False, (1, 1), (1, -2))], first=3)

    def test_divides_of_0(self):
        text, ahead = "x = base ; if {} ; end", (BASE,)
        self.assert_steps(text.format("divides y x"), ahead, [("is", False)],
                          [("is", True), ("is", False, (1,), BASE[1]), ("is", True, (1,), (1,))])
        self.assert_steps(text.format("divides y z"), ahead, [("is", True)], [("is", False), ("is", True, (1,), (1,))])
        self.assert_steps(text.format("divides x y"), ahead, [("is", True, (1,), (1,))],
                          [("is", True), ("is", False, (1,), (1,)), ("is", False)])
        self.assert_steps(text.format("not divides y z"), ahead, [("is", False)], [("is", True)])

    def test_mirrored(self):
        for given, outcome, spelt in (((1, 2, 1), True, ((1, 1), (1, 2), (1, 1))),
                                      ((1, 2, 3), False, ((1, 1), (1, 2), (1, 3))),
                                      ((5,), True, ((1, 5),)), ((1, 0), False, ((1, 1), (1,)))):
            text = f"x = figures {' '.join(map(str, given))} ; if mirrored x ; end"
            ahead = (("put", (1,) + given[::-1]),)
            self.assert_steps(text, ahead, [("is", outcome, spelt)], [("is", not outcome, spelt), ("is", outcome),
                                                                      ("is", outcome, ()), ("is", outcome, spelt[1:]),
                                                                      ("is", outcome, spelt, ()),
                                                                      ("is", outcome, list(spelt)),
                                                                      ("is", outcome) + spelt[:1]], first=6)
        self.assert_steps("if not mirrored x ; end", (), [("is", False, ((1,),))],
                          [("is", True, ((1,),)), ("is", False, ((1,), (1,))), ("is", False)])
        # The ends differ from 61 on; in base 60 they are alike.
        one = lines("x = base ; y = number 30 ; x = x - y ; x = joined x y ; if mirrored x ; end")
        for first, holds in ((60, False), (61, True)):
            part, wide = (1, -30, 1), (1, 30)
            told = (first, 1, ((BASE, ("put", (1, 30)), ("put", part), ("put", (1, 30, -30, 1), (wide,)),
                                ("is", False, (part, wide))),))
            self.assertIs(paper_holds(one, told), holds)

    def test_unlike(self):
        for given, outcome in (((1, 2, 1), False), ((1, 2, 3), True), ((5,), True), ((1, 0), True),
                               ((3, 0, 1, 3), False)):
            spelt = tuple((1, one) for one in given)
            ahead = (("put", (1,) + given[::-1]),)
            text = f"x = figures {' '.join(map(str, given))} ; if unlike x ; end"
            self.assert_steps(text, ahead, [("is", outcome, spelt)], [("is", not outcome, spelt), ("is", outcome),
                                                                      ("is", outcome, spelt[1:]),
                                                                      ("is", outcome, spelt + ((1,),))], first=6)
        one = lines("x = base ; y = number 30 ; x = x - y ; x = joined x y ; if unlike x ; end")
        for first, holds in ((60, False), (61, True)):
            part, wide = (1, -30, 1), (1, 30)
            told = (first, 1, ((BASE, ("put", (1, 30)), ("put", part), ("put", (1, 30, -30, 1), (wide,)),
                                ("is", True, (part, wide))),))
            self.assertIs(paper_holds(one, told), holds)

    def test_blocks(self):
        one = lines("x = base ; if less x x ; y = base ; else ; times 2 ; y = y + x ; end ; stop ; end ; y = base")
        right = (BASE, ("is", False), BASE, ("put", (1, 0, 2)), ("stop",))
        self.assertTrue(paper_holds(one, (2, 1, (right,))))
        for wrong in (right[:-1], right + (BASE,), right[:3] + right[4:], right[:2] + (BASE,) + right[2:],
                      (BASE, ("is", True), BASE, BASE), ()):
            self.assertFalse(paper_holds(one, (2, 1, (wrong,))))
        self.assertTrue(paper_holds(lines("times 0 ; x = base ; end ; times 3 ; times 2 ; end ; end"), (2, 1, ((),))))


class Papers(unittest.TestCase):

    def test_the_document(self):
        small = program("x = base", "y = number 3", "if less x y", "x = let y", "end")
        told = (3, 1, ((BASE, ("put", (1, 3)), ("is", False)),))
        self.assertEqual((paper_holds(small, told), paper_holds(small, (2,) + told[1:])), (True, False))
        self.assertEqual(paper_holds(program=small, value=told), True)
        self.assertTrue(paper_holds(small, paper(program=small)))

    def test_without_rows(self):
        self.assertEqual(paper(Program())[1:], (1, ((),)))
        for told, holds in (((2, 1, ((),)), True), ((2, 2, ((), ())), True), ((2, 2, ((),)), False),
                            ((2, 1, ()), False), ((2, 0, ()), False),
                            ((1, 1, ((),)), False), ((2, 1, ([],)), False), ((2, 1, [()]), False),
                            ((2, True, ((),)), False), ((10 ** 30, 1, ((),)), True),
                            ((2, 1, ((), ())), False), ((2, 1, ((),), ()), False), ((2, 1), False),
                            ([2, 1, ((),)], False), ((True, 1, ((),)), False)):
            self.assertIs(paper_holds(Program(), told), holds, told)

    def test_any_value(self):
        values = THINGS + NO_INTEGERS + (0, 1, 10 ** 30, Bases.every(), Worth.base(), Term(1), Program(), ((),),
                                         ((((((((),),),),),),),))
        for one in (Program(), lines("x = base"), lines("x = base ; if mirrored x ; stop ; end"), lines("stop")):
            for value in values:
                for told in (value, (value,), (value, value, value), (2, value, ((),)), (2, 1, value), (2, 1, (value,)),
                             (2, 1, ((value,),)),
                             (2, 1, ((BASE, value),)), (2, 1, ((("put", value),),)), (2, 1, ((("put", (1, value)),),)),
                             (2, 1, ((BASE, ("is", value)),)),
                             (2, 1, ((BASE, ("is", True, value)),)), (2, 1, ((BASE, ("is", True, (value,))),)),
                             (2, 1, (((value, (1, 0, 1)),),)),
                             (value, 1, ((BASE,),))):
                    holds = paper_holds(one, told)
                    self.assertIs(type(holds), bool)
                    self.assertIs(holds, right_paper(one, told), (str(one), told))
        for value in NO_BASES:
            self.assertIs(paper_holds(Program(), (value, 1, ((),))), False)

    def test_papers_of_samples(self):
        for one in SAMPLES:
            self.assert_paper(one)

    def test_papers_of_many(self):
        for one, _ in made(6, 300):
            self.assert_paper(one)

    def assert_paper(self, one):
        told = paper(one)
        self.assertIs(paper_holds(one, told), True, str(one))
        if told[1] <= 12:
            self.assertTrue(right_paper(one, told), str(one))
        self.assertIs(paper_holds(one, (told[0] + 100,) + told[1:]), True)
        self.assertIs(paper_holds(one, (told[0], 2 * told[1], told[2] * 2)), True)
        self.assertEqual(paper(one), told)
        self.assert_told(one, told)

    def assert_told(self, one, told):
        """The tales tell the runs."""
        first, period, tales = told
        for base in (first, first + 1, first + 7, first + period, 10 ** 12 + 1):
            held, stop, _ = reference(str(one), base)
            steps = tales[base % period]
            self.assertEqual(steps[-1:] == (("stop",),), stop is not None)
            if held is not None:
                ends = [Term(*step[1][1:], over=step[1][0])(base) for step in steps if step[0] == "put"]
                self.assertEqual(set(held.values()) - set(ends), set() if held else set())

    def test_something_otherwise(self):
        chance = random.Random(7)
        seen = {True: 0, False: 0}
        for one in [one for one, _ in made(8, 150)] + list(SAMPLES):
            told = paper(one)
            if told[1] > 12:
                continue
            for first in (told[0] - 1, told[0] // 2):
                value = (first,) + told[1:]
                self.assertIs(paper_holds(one, value), right_paper(one, value))
            for _ in range(25):
                value = changed(chance, told)
                if chance.random() < 0.3:
                    value = changed(chance, value) if isinstance(value, tuple) else value
                holds = right_paper(one, value)
                seen[holds] += 1
                self.assertIs(paper_holds(one, value), holds, (str(one), value))
        self.assertGreater(min(seen.values()), 300)

    def test_papers_of_other_programs(self):
        for one, other in zip(SAMPLES, SAMPLES[1:]):
            self.assertIs(paper_holds(other, paper(one)), right_paper(other, paper(one)))

    def test_steps_too_many_or_too_few(self):
        for one in SAMPLES:
            first, period, tales = paper(one)
            if period <= 6 and len(tales[0]) > 0:
                for steps in (tales[0][:-1], tales[0][1:], tales[0] + tales[0][-1:], tales[0] + (("stop",),),
                              tales[0] + ((),)):
                    self.assertIs(paper_holds(one, (first, period, (steps,) + tales[1:])), False)
                for some in (tales[1:], tales + tales[:1], ()):
                    self.assertIs(paper_holds(one, (first, period, some)), False)

    def test_near_the_limits(self):
        for one in (lines("x = base ; y = number 70 ; z = x // y ; u = greatest x"),
                    lines("x = figures 1 0 0 0 ; y = number 19 ; z = rest x y"),
                    lines("x = figures 31 1 11 ; x = x * x ; y = base ; y = turned y ; y = joined x y"),
                    lines("times 3 ; y = base ; x = joined x y ; times 2 ; z = greatest x ; end ; end")):
            self.assertTrue(is_measured(one))
            self.assertTrue(paper_holds(one, paper(one)))

    def test_nothing_is_changed(self):
        one = lines("x = base ; y = number 6 ; z = common x y")
        before, told = fields(one), paper(one)
        paper_holds(one, told)
        self.assertEqual((fields(one), paper(one)), (before, told))


if __name__ == "__main__":
    unittest.main()
