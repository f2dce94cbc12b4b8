"""Terms: polynomials of the base with fractions as coefficients."""

from everybase.errors import InvalidTerm, NotWhole
from everybase.kinds import is_integer
from everybase.polys import along, minus, negative, plain, plus, power, reduced, sure_since, times, value, whole_in


class Term:
    """A polynomial of the base; it never changes."""

    def __init__(self, *coefficients, over=1):
        if not all([is_integer(one) for one in coefficients]):
            raise InvalidTerm("coefficients")
        if not is_integer(over) or over < 1:
            raise InvalidTerm("over")
        self.poly = reduced(over, coefficients)
        self.coefficients = self.poly[1:]
        self.over = self.poly[0]

    @property
    def degree(self):
        """The greatest power, -1 for 0."""
        return len(self.coefficients) - 1

    def moved(self, k):
        """The term with `b + k` in the place of the base."""
        return term_of(along(self.poly, k, 1))

    def is_whole(self, rest, period):
        """Whether the value is an integer for all integers with this rest by the period."""
        return whole_in(self.poly, rest, period)

    def sure_from(self):
        """The least base from which the term is surely not below 0, or None."""
        return sure_since(self.poly)

    def __call__(self, base):
        number = value(self.poly, base)
        if number is None:
            raise NotWhole()
        return number

    def __add__(self, other):
        poly = _poly_of(other)
        if poly is None:
            return NotImplemented
        return term_of(plus(self.poly, poly))

    def __radd__(self, other):
        poly = _poly_of(other)
        if poly is None:
            return NotImplemented
        return term_of(plus(poly, self.poly))

    def __sub__(self, other):
        poly = _poly_of(other)
        if poly is None:
            return NotImplemented
        return term_of(minus(self.poly, poly))

    def __rsub__(self, other):
        poly = _poly_of(other)
        if poly is None:
            return NotImplemented
        return term_of(minus(poly, self.poly))

    def __mul__(self, other):
        poly = _poly_of(other)
        if poly is None:
            return NotImplemented
        return term_of(times(self.poly, poly))

    def __rmul__(self, other):
        poly = _poly_of(other)
        if poly is None:
            return NotImplemented
        return term_of(times(poly, self.poly))

    def __pow__(self, other):
        return term_of(power(self.poly, other))

    def __neg__(self):
        return term_of(negative(self.poly))

    def __eq__(self, other):
        return isinstance(other, Term) and self.poly == other.poly

    def __str__(self):
        return str(_text(self.poly))


def term_of(poly):
    """The term that is a polynomial told as in `polys`."""
    coefficients = poly[1:]
    over = poly[0]
    return Term(*coefficients, over=over)


def _poly_of(value_or_term):
    """The polynomial that an operand stands for, or None if it is no term and no integer."""
    if isinstance(value_or_term, Term):
        return value_or_term.poly
    if is_integer(value_or_term):
        return plain(value_or_term)
    return None


def _text(poly):
    """The text of a polynomial."""
    parts = []
    for at in range(len(poly) - 2, -1, -1):
        if poly[at + 1] != 0:
            parts.append(_part(poly[at + 1], at, len(parts) == 0))
    if len(parts) == 0:
        return "0"
    text = " ".join(parts)
    if poly[0] == 1:
        return text
    if len(parts) == 1:
        return f"{text} / {poly[0]}"
    return f"({text}) / {poly[0]}"


def _part(coefficient, at, begins):
    """The text of one part of a polynomial, with its sign."""
    number = abs(coefficient)
    text = _letter(at)
    if number != 1 or at == 0:
        text = f"{number} {text}" if at > 0 else str(number)
    if begins:
        return text if coefficient > 0 else f"-{text}"
    return f"+ {text}" if coefficient > 0 else f"- {text}"


def _letter(at):
    """The text of a power of the base."""
    return "b" if at == 1 else f"b^{at}"
