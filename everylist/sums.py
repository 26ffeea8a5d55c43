"""Sums of registers and of 1, each times a polynomial in fields, and their texts.

The parts of a sum are the dict from its sources, registers or "1", to polynomials.
"""

from everylist.checks import are_digits
from everylist.errors import BadSum
from everylist.polys import Poly
from everylist.ratios import Ratio
from everylist.writing import field_factors, terms_text

POWER_DIGITS = 2


def read_sum(text, registers, fields):
    """Returns the parts of the sum that a text tells, without those that are 0, or raises BadSum."""
    if not isinstance(text, str):
        raise BadSum(text)
    return _parts_told(text, registers, fields, POWER_DIGITS)


def read_long_sum(text, registers, fields):
    """Returns what read_sum does, but powers may have any number of digits, as those of products do."""
    return _parts_told(text, registers, fields, len(text))


def sum_text(parts, registers):
    """Returns the one text of a sum; sources may lack."""
    terms = []
    for source in [*registers, "1"]:
        if source in parts:
            poly = parts[source]
            last = [] if source == "1" else [source]
            for powers, number in poly.terms().items():
                terms.append((number, [*field_factors(poly.fields, powers), *last]))
    return terms_text(terms)


def _parts_told(text, registers, fields, digits):
    """Returns the parts of a sum whose powers have at most so many digits, or raises BadSum."""
    table = {source: {} for source in [*registers, "1"]}
    words = _signs_and_terms(text)
    for sign, term in zip(words[0::2], words[1::2]):
        told = _term_told(term, registers, fields, digits)
        if sign not in ("+", "-") or told is None:
            raise BadSum(text)
        number, source, powers = told
        terms = table[source]
        terms[powers] = terms.get(powers, 0) + (-number if sign == "-" else number)
    if len(words) % 2 == 1:
        raise BadSum(text)
    polys = {source: Poly(fields, table[source]) for source in table}
    return {source: poly for source, poly in polys.items() if len(poly.terms()) > 0}


def _signs_and_terms(text):
    """Returns the list of the words of a sum: by turns a sign and a term, as far as the text is a sum."""
    if text.startswith("-"):
        return ["-", *text[1:].split(" ")]
    return ["+", *text.split(" ")]


def _term_told(text, registers, fields, digits):
    """Returns the number, the source and the tuple of powers that the text of a term tells, or None."""
    number = 1
    source = "1"
    powers = {field: 0 for field in fields}
    for factor in text.split("*"):
        name, hat, power = factor.partition("^")
        worth = _number_told(factor)
        if worth is not None:
            number = worth * number
        elif factor in registers and source == "1":
            source = factor
        elif name in powers and hat == "":
            powers[name] += 1
        elif name in powers and power != "0" and len(power) <= digits and _is_count(power):
            powers[name] += int(power)
        else:
            return None
    return number, source, tuple([powers[field] for field in fields])


def _number_told(text):
    """Returns the number, not below 0, that a text of digits tells, as a Ratio, or None."""
    top, stroke, bottom = text.partition("/")
    if stroke == "":
        bottom = "1"
    if not _is_count(top) or not _is_count(bottom) or bottom == "0":
        return None
    return Ratio(int(top), int(bottom))


def _is_count(text):
    """Tells whether a text is that of an integer from 0 on: digits without leading zeros."""
    return are_digits(text) and (text == "0" or not text.startswith("0"))
