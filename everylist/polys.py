"""Polynomials in the fields of a row."""

from everylist.checks import is_int, is_name
from everylist.errors import BadName, NoTerm, OtherFields, WrongCount
from everylist.ratios import is_number, plain
from everylist.writing import field_factors, terms_text


class Poly:
    """A sum of numbers, each times the fields to some powers."""

    def __init__(self, fields, terms):
        names = []
        for field in fields:
            if not is_name(field) or field in names:
                raise BadName(field)
            names.append(field)
        for term in terms:
            if not _is_term(term, len(names)):
                raise NoTerm(term)
        self.fields = tuple(names)
        self._terms = _one_form(terms)

    def __add__(self, other):
        if not _is_poly_or_number(other):
            return NotImplemented
        return Poly(self.fields, _sum_of_terms(self._terms, self._terms_of(other)))

    def __radd__(self, other):
        if not is_number(other):
            return NotImplemented
        return self + other

    def __sub__(self, other):
        if not _is_poly_or_number(other):
            return NotImplemented
        return self + (-other)

    def __rsub__(self, other):
        if not is_number(other):
            return NotImplemented
        return (-self) + other

    def __mul__(self, other):
        if not _is_poly_or_number(other):
            return NotImplemented
        return Poly(self.fields, _product_of_terms(self._terms, self._terms_of(other)))

    def __rmul__(self, other):
        if not is_number(other):
            return NotImplemented
        return self * other

    def __neg__(self):
        return Poly(self.fields, {term: -number for term, number in self._terms.items()})

    def __eq__(self, other):
        return isinstance(other, Poly) and self.fields == other.fields and self._terms == other._terms

    def __str__(self):
        terms = [(number, field_factors(self.fields, term)) for term, number in self._terms.items()]
        return f"{terms_text(terms)}"

    def terms(self):
        """Returns the dict from powers to plain numbers, none of them 0, greater powers first."""
        return {term: number for term, number in self._terms.items()}

    def at(self, numbers):
        """Returns the plain value where the fields have these numbers, in order."""
        if len(numbers) != len(self.fields):
            raise WrongCount(len(numbers))
        tables = [_powers(1, number, self.power(k)) for k, number in enumerate(numbers)]
        return plain(_value(self._terms, tables, 0))

    def power(self, k):
        """Returns the greatest power of the field number k, from 0, in the terms."""
        if not is_int(k) or not 0 <= k < len(self.fields):
            raise WrongCount(k)
        return max([term[k] for term in self._terms], default=0)

    def put(self, fields, polys):
        """Returns the polynomial over these fields with a polynomial over them in the place of each own field."""
        if len(polys) != len(self.fields):
            raise WrongCount(len(polys))
        if any([poly.fields != tuple(fields) for poly in polys]):
            raise OtherFields()
        zero = Poly(fields, {})
        tables = [_powers(zero + 1, poly, self.power(k)) for k, poly in enumerate(polys)]
        return _value(self._terms, tables, zero)

    def _terms_of(self, other):
        """Returns the terms of a number, or of a polynomial over the same fields."""
        if is_number(other):
            return {(0,) * len(self.fields): other}
        if other.fields != self.fields:
            raise OtherFields()
        return other._terms


def _is_poly_or_number(thing):
    """Tells whether something can be added to a polynomial."""
    return isinstance(thing, Poly) or is_number(thing)


def _is_term(thing, many):
    """Tells of any object whether it is a tuple of so many powers."""
    if not isinstance(thing, tuple) or len(thing) != many:
        return False
    return all([is_int(power) and power >= 0 for power in thing])


def _one_form(terms):
    """Returns the same terms with plain numbers, none of them 0, greater powers first."""
    return {term: plain(terms[term]) for term in sorted(list(terms), reverse=True) if terms[term] != 0}


def _sum_of_terms(one, other):
    """Returns the terms of the sum of two polynomials."""
    total = {}
    for terms in (one, other):
        for term, number in terms.items():
            total[term] = total.get(term, 0) + number
    return total


def _product_of_terms(one, other):
    """Returns the terms of the product of two polynomials."""
    total = {}
    for powers, number in one.items():
        for more, factor in other.items():
            term = tuple([power + added for power, added in zip(powers, more)])
            total[term] = total.get(term, 0) + number * factor
    return total


def _powers(one, base, top):
    """Returns the list of the powers of a number or a polynomial, from 0 to top."""
    found = [one]
    for _ in range(top):
        found.append(found[-1] * base)
    return found


def _value(terms, tables, zero):
    """Returns the sum of the terms, added to zero; the tables hold the powers of what stands for each field."""
    total = zero
    for term, number in terms.items():
        worth = number
        for power, table in zip(term, tables):
            if power > 0:
                worth = worth * table[power]
        total = total + worth
    return total
