"""Which rows there are, and the grids of rows with small numbers."""

from everylist.checks import is_list, is_name
from everylist.errors import BadKind, NoKind
from everylist.ratios import is_number


class Rows:
    """The kinds of rows, each with its fields, in order."""

    def __init__(self, kinds):
        table = {}
        for index, thing in enumerate(kinds):
            if not _is_kind_with_fields(thing) or thing[0] in table:
                raise BadKind(index)
            table[thing[0]] = tuple(thing[1])
        self._table = table

    def __eq__(self, other):
        # Two dicts are equal in any order of their keys, but the order of the kinds counts.
        return isinstance(other, Rows) and list(self._table.items()) == list(other._table.items())

    def kinds(self):
        """Returns the list of the kinds, in order."""
        return list(self._table)

    def fields_of(self, kind):
        """Returns the list of the fields of a kind, in order."""
        if not self._is_kind(kind):
            raise NoKind(kind)
        return list(self._table[kind])

    def is_row(self, thing):
        """Tells of any object whether it is a row: a kind and one number for each of its fields."""
        if not is_list(thing) or len(thing) == 0 or not self._is_kind(thing[0]):
            return False
        numbers = thing[1:]
        return len(numbers) == len(self._table[thing[0]]) and all([is_number(number) for number in numbers])

    def grid(self, powers):
        """Returns the list of all rows with integers from 0 to the power of their field, in order."""
        return [(kind, *numbers) for kind in self._table for numbers in _small_numbers(powers[kind])]

    def lists(self, powers, many):
        """Returns the list of all lists of so many rows of the grid, in order."""
        rows = self.grid(powers)
        found = [[]]
        for _ in range(many):
            found = [[*shorter, row] for shorter in found for row in rows]
        return found

    def _is_kind(self, thing):
        # Not every object can be looked for in a dict; a string can.
        return isinstance(thing, str) and thing in self._table


def _is_kind_with_fields(thing):
    """Tells of any object whether it is a pair of a name and a list of different names."""
    if not is_list(thing) or len(thing) != 2 or not is_name(thing[0]) or not is_list(thing[1]):
        return False
    fields = thing[1]
    return all([is_name(field) for field in fields]) and len(set(fields)) == len(fields)


def _small_numbers(tops):
    """Returns the list of all tuples of integers from 0 to these tops, lesser first numbers first."""
    found = [()]
    for top in tops:
        found = [(*shorter, number) for shorter in found for number in range(top + 1)]
    return found
