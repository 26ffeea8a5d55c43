"""Which loop a function of lists is."""

from everylist.building import loop_of_tables, one_in, without_zeros
from everylist.errors import NoLoop
from everylist.polys import Poly
from everylist.ratios import Ratio
from everylist.reducing import Form
from everylist.vectors import Space, common_bottom, dot, inverse, made_whole, unit


def find_loop(rows, powers, most, tell):
    """Returns the one form of the loop with at most so many registers and these powers that tells what tell does."""
    asked = [one for many in range(2 * most + 1) for one in rows.lists(powers, many)]
    told = {tuple(one): tell(list(one)) for one in asked}
    short = [one for one in asked if len(one) <= most]
    found = Found(rows, powers, told, short)
    # The ends of a loop are as many as its registers at most, and each without its first row is one of them, too.
    if len(found.ends) > most or any([len(end) >= most for end in found.ends]):
        raise NoLoop()
    loop = found.loop()
    if any([loop.run(one) != told[tuple(one)] for one in asked]):
        raise NoLoop()
    return Form(loop).least()


class Found:
    """What a function of lists tells of the one form of the loop that it is, if it is one.

    Its ends and beginnings are found as those of a loop are, with the lists of at most so many rows as it has registers
    in the place of all lists: behind these the registers can be all that they ever can be.
    """

    def __init__(self, rows, powers, told, short):
        numbers = list(told.values())
        self._rows = rows
        self._powers = powers
        self._told = told
        self._factor = common_bottom(numbers)
        self._whole = dict(zip(list(told), made_whole(numbers, self._factor)))
        self.ends = self._ends_of(short)
        self._beginnings = self._beginnings_of(short)

    def loop(self):
        """Returns the loop."""
        tables = {kind: self._table_of(kind) for kind in self._rows.kinds()}
        starts = [1, *[self._told[tuple(end)] for end in self.ends]]
        # The first end, where there is one, is the empty list.
        told = [0, 1] if len(self.ends) > 0 else [self._told[()]]
        return loop_of_tables(self._rows, starts, tables, told)

    def _ends_of(self, short):
        space = Space(len(short))
        space.widen([1 for _ in short])
        return [end for end in short if space.widen(self._values(short, end))]

    def _beginnings_of(self, short):
        space = Space(len(self.ends) + 1)
        return [front for front in short if space.widen([1, *[self._value(front, end) for end in self.ends]])]

    def _values(self, fronts, end):
        return [self._value(front, end) for front in fronts]

    def _value(self, front, end):
        """Returns what is told of a list with an end behind, times the factor."""
        return self._whole[tuple(front + end)]

    def _table_of(self, kind):
        """Returns the table of what the registers become at a row of a kind, told by what they become at all points."""
        fields = self._rows.fields_of(kind)
        square = [[1 for _ in self._beginnings], *[self._values(self._beginnings, end) for end in self.ends]]
        columns, scale = inverse(square)
        bases = {row: _basis(fields, self._powers[kind], row[1:])
                 for row in self._rows.grid(self._powers) if row[0] == kind}
        return [{0: one_in(fields)}, *[self._parts_before(end, bases, columns, scale) for end in self.ends]]

    def _parts_before(self, end, bases, columns, scale):
        """Returns the parts of what the register of an end becomes, from the polynomials that are 1 at one point."""
        total = {}
        for row, basis in bases.items():
            values = self._values(self._beginnings, [row, *end])
            for place, column in enumerate(columns):
                number = Ratio(dot(values, column), scale if place > 0 else scale * self._factor)
                total[place] = total[place] + basis * number if place in total else basis * number
        return without_zeros(total)


def _basis(fields, tops, numbers):
    """Returns the polynomial that is 1 at these numbers, and 0 at all others from 0 to these tops."""
    poly = one_in(fields)
    for place, (top, number) in enumerate(zip(tops, numbers)):
        variable = Poly(fields, {tuple(unit(len(fields), place)): 1})
        for other in range(top + 1):
            if other != number:
                poly = poly * (variable - other) * Ratio(1, number - other)
    return poly
