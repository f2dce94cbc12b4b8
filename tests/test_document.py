"""The examples that stand in the document, and what it promises of all modules together."""

import doctest
import importlib
import inspect
import unittest

from everybase.alike import partings
from everybase.bases import Bases
from everybase.books import book
from everybase.desk import Desk
from everybase.papers import paper
from everybase.programs import Program, Sheet
from everybase.reading import test_of as told_test
from everybase.rows import Put
from everybase.terms import Term
from everybase.worths import Worth
from tests.measured import SAMPLES, made
from tests.samples import fields

EXAMPLES = r'''
>>> from everybase.programs import Program
>>> from everybase.runs import run
>>> from everybase.books import book
>>> p = Program.read("x = figures 1 1\ny = x * x\nz = sum y\nif mirrored y\nz = z + x\nend")
>>> run(p, 10), str(book(p)["z"].terms[0]), book(p).stops().size
({'x': 11, 'y': 121, 'z': 15}, 'b + 5', 0)
>>> from everybase.terms import Term
>>> term = Term(0, 1, 1, over=2)
>>> str(term), term(3), term.is_whole(0, 1), str(term - 1), (term - 4).sure_from(), str(-term * 4)
('(b^2 + b) / 2', 6, True, '(b^2 + b - 2) / 2', 3, '-2 b^2 - 2 b')
>>> from everybase.bases import Bases
>>> some = Bases.rest(4, 1) | Bases.rest(4, 3) | Bases.of([2, 6])
>>> str(some), some.below(10), some.nth(3), str(~some), some <= Bases.upward(2)
('2 3 5 6, from 7: 1 of 2', 6, 6, '4, from 7: 0 of 2', True)
>>> from everybase.worths import Worth
>>> base, eleven = Worth.base(), Worth.figures(1, 1)
>>> half = (base * base + 1) // 2
>>> [str(term) for term in half.terms], half(10), half == (base ** 2 + 1) // 2, eleven ** 2 == Worth.figures(1, 2, 1)
(['b^2 / 2', '(b^2 + 1) / 2'], 50, True, False)
>>> str((eleven ** 2).same(Worth.figures(1, 2, 1))), str(half.total().terms[1]), str(half.figure(0).same(0))
('from 3: 0 of 1', 'b', 'from 2: 0 of 2')
>>> q = Program.read("x = figures 1 0 0\ny = number 2\nz = x // y\nu = z - y\nif divides y x\nu = turned u\nend")
>>> b = book(q)
>>> b.period, b.start, [str(b.tale(rest)["u"]) for rest in (0, 1)], b(10)["u"]
(2, 2, ['(2 b^2 - 3 b - 2) / 2', '(b^2 - 5) / 2'], 84)
>>> from everybase.papers import paper_holds
>>> small = Program.read("x = base\ny = number 3\nif less x y\nx = let y\nend")
>>> told = (3, 1, ((("put", (1, 0, 1)), ("put", (1, 3)), ("is", False)),))
>>> paper_holds(small, told), paper_holds(small, (2,) + told[1:])
(True, False)
'''
# The names of the arguments, as the interface tells them; those behind a star by name only.
PARAMETERS = {
    "terms": {"Term": "coefficients over", "Term.moved": "k", "Term.is_whole": "rest period", "Term.sure_from": "",
              "Term.__call__": "base"},
    "bases": {"Bases.none": "", "Bases.every": "", "Bases.of": "bases", "Bases.rest": "period rest",
              "Bases.upward": "first",
              "Bases.below": "number", "Bases.nth": "k"},
    "worths": {"Worth.number": "k", "Worth.base": "", "Worth.figures": "figures", "Worth.__call__": "base",
               "Worth.figure": "k", "Worth.first": "k",
               "Worth.last": "k", "Worth.joined": "other", "Worth.common": "other", "Worth.lesser": "other",
               "Worth.same": "other",
               "Worth.less": "other", "Worth.divides": "other", "Worth.within": "bases", "Worth.turned": "",
               "Worth.mirrored": ""},
    "books": {"book": "program", "Book.stops": "at", "Book.comes": "at", "Book.where": "test", "Book.tale": "rest",
              "Book.__call__": "base"},
    "alike": {"alike": "p q within", "least_parting": "p q within", "partings": "p q within",
              "sure": "program test within",
              "least_breach": "program test within", "needless": "program"},
    "papers": {"paper": "program", "paper_holds": "program value"},
    "desk": {"Desk": "", "Desk.say": "command", "Desk.undo": ""},
}


class Document(unittest.TestCase):

    def test_examples(self):
        found = doctest.DocTestParser().get_doctest(EXAMPLES, {}, "examples", None, None)
        told = doctest.DocTestRunner().run(found)
        self.assertEqual((told.failed, told.attempted > 20), (0, True))

    def test_the_names_of_the_arguments(self):
        for module, all_told in PARAMETERS.items():
            for name, told in all_told.items():
                work = importlib.import_module(f"everybase.{module}")
                for part in name.split("."):
                    work = getattr(work, part)
                found = [one for one in inspect.signature(work).parameters if one != "self"]
                self.assertEqual(found, told.split(), name)

    def test_attributes_are_set_when_objects_are_created(self):
        for one, names in ((Term(1, 2), "coefficients over"), (Bases.rest(3, 1), "start period rests lone"),
                           (Worth.base(), "start period terms lone"),
                           (book(Program()), "names start period"), (Desk(), "program")):
            for name in names.split():
                self.assertIn(name, vars(one))


class Together(unittest.TestCase):

    def test_objects_never_change(self):
        p = SAMPLES[9]
        whole, worth, bases, term, told = book(p), Worth.base() // 3, Bases.rest(3, 1), Term(1, 2, over=3), paper(p)
        before = [fields(one) for one in (p, whole, worth, bases, term)]
        worth + worth, worth.turned(), worth.within(bases), worth | 3, worth.same(4), worth < 3, worth(5), worth.bases
        bases | Bases.of([5]), ~bases, bases.nth(3), bases.below(9), bases <= bases, str(bases)
        bases.lowest, bases.size, 4 in bases
        term + 1, -term, term.moved(3), term ** 2, str(term), term.degree, term.sure_from()
        whole["x"], whole.tale(1), whole.stops(), whole == whole, partings(p, p, within=bases), paper(p)
        self.assertEqual([fields(one) for one in (p, whole, worth, bases, term)], before)
        self.assertEqual(paper(p), told)

    def test_the_same_call_returns_an_equal_result(self):
        for one, test in made(9, 25):
            first = book(one), paper(one), book(one).where(test), [book(one)[name] for name in one.names]
            for other, _ in made(10, 3):
                book(other), paper(other)
            again = book(one), paper(one), book(one).where(test), [book(one)[name] for name in one.names]
            self.assertEqual(first, again)

    def test_objects_with_equality_are_equal_to_nothing_of_another_class(self):
        values = (Term(), Bases.none(), Worth.number(0), book(Program()), Program(), Put("x", "base"),
                  told_test(["mirrored", "x"]), None, 0, "", (), [], {})
        for at, one in enumerate(values):
            for by, other in enumerate(values):
                self.assertIs(one == other, at == by)

    def test_nothing_is_iterable(self):
        for one in (Term(1), Bases.every(), Worth.base(), book(SAMPLES[0]), Desk(), Program(), Sheet()):
            self.assertRaises(TypeError, iter, one)


if __name__ == "__main__":
    unittest.main()
