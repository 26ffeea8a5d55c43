"""How sums are written: their terms with signs, and the factors of a term."""

from everylist.ratios import less


def terms_text(terms):
    """Returns the text of a sum of terms, pairs of a number, not 0, and the list of the texts of its other factors."""
    words = []
    for number, factors in terms:
        words.append(_sign(number, len(words) == 0))
        words.append(_term_text(number, factors))
    return "".join(words) if len(words) > 0 else "0"


def field_factors(fields, powers):
    """Returns the list of the texts of the fields with a power above 0, in order."""
    return [_power_text(field, power) for field, power in zip(fields, powers) if power > 0]


def _sign(number, is_first):
    """Returns the sign that stands between a term with this number and what is before it."""
    if is_first:
        return "-" if less(number, 0) else ""
    return " - " if less(number, 0) else " + "


def _term_text(number, factors):
    """Returns the text of a term without its sign."""
    size = -number if less(number, 0) else number
    if size == 1 and len(factors) > 0:
        return "*".join(factors)
    return "*".join([str(size), *factors])


def _power_text(name, power):
    """Returns the text of a field with its power."""
    return name if power == 1 else f"{name}^{power}"
