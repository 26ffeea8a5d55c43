"""Whether two loops always tell the same, and the first list for which they do not."""

from everylist.errors import UnlikeRows
from everylist.loops import loop_of_parts
from everylist.machines import first_list, machine_of, told_by
from everylist.polys import Poly
from everylist.vectors import common_bottom, made_whole


class Parting:
    """The first list of rows for which two loops do not tell the same, and what they tell for it."""

    def __init__(self, rows, tells):
        self.rows = rows
        self.tells = tells


def parting(one, other):
    """Returns the Parting of two loops over equal rows, or None if they always tell the same."""
    rows = _first_unlike(one, other)
    if rows is None:
        return None
    return Parting(rows, (one.run(rows), other.run(rows)))


def alike(one, other):
    """Tells whether two loops over equal rows always tell the same."""
    return _first_unlike(one, other) is None


def always(loop):
    """Returns the number that a loop tells for every list, or None if it does not always tell the same."""
    number = loop.run([])
    constant = loop_of_parts(loop.rows, {}, {}, {"1": Poly([], {(): number})})
    return number if alike(loop, constant) else None


def _first_unlike(one, other):
    """Returns the first list of rows for which two loops do not tell the same, or None."""
    if one.rows != other.rows:
        raise UnlikeRows()
    return first_list(machine_of([one, other]), difference(told_by(one), told_by(other)))


def difference(one, other):
    """Returns the covector of the difference of what two loops tell, that have their registers side by side."""
    numbers = [one[0] - other[0], *one[1:], *[-number for number in other[1:]]]
    return made_whole(numbers, common_bottom(numbers))
