"""The one form of a loop: which lists make it up, and its numbers."""

from everylist.building import free_names
from everylist.bundles import at_point, first_point
from everylist.loops import loop_of_parts
from everylist.machines import all_lists, machine_of, rests, told_by
from everylist.polys import Poly
from everylist.ratios import Ratio
from everylist.vectors import Space, common_bottom, dot, inverse, made_whole, unit


class Form:
    """The ends and the beginnings of a loop, and its one form.

    The covector of an end is that of what the loop tells with this end behind, times a number, its factor. Before all
    of them stands the covector of the number 1, whose factor is 1.
    """

    def __init__(self, loop):
        machine = machine_of([loop])
        lists = all_lists(machine)
        told = told_by(loop)
        factor = common_bottom(told)
        one = unit(len(machine.begins), 0)
        found = _ends_of(machine, made_whole(told, factor), one, [vector for _, vector in lists])
        self.ends = [rows for rows, _ in found]
        self._loop = loop
        self._machine = machine
        self._covectors = [one, *[covector for _, covector in found]]
        self._factors = [1, *[factor * _scale_of_rows(machine, rows) for rows in self.ends]]
        chosen = _beginnings_of(lists, self._covectors)
        self.beginnings = [rows for rows, _ in chosen]
        self._vectors = [vector for _, vector in chosen]
        square = [_values(covector, self._vectors) for covector in self._covectors]
        self._inverse_columns, self._inverse_scale = inverse(square)

    def least(self):
        """Returns the one form of the loop, whose registers are what it tells with its ends behind."""
        rows = self._loop.rows
        names = free_names(rows, len(self.ends))
        starts = {name: self._loop.run(end) for name, end in zip(names, self.ends)}
        changes = {kind: self._changes(kind, names) for kind in rows.kinds()}
        # The first end, where there is one, is the empty list.
        told = {names[0]: Poly([], {(): 1})} if len(names) > 0 else {"1": Poly([], {(): self._loop.run([])})}
        return loop_of_parts(rows, starts, changes, told)

    def _changes(self, kind, names):
        """Returns the dict from the registers of the one form to the parts of what they become."""
        return {name: self._parts_before(kind, place + 1, ["1", *names]) for place, name in enumerate(names)}

    def _parts_before(self, kind, place, sources):
        """Returns the parts of what the covector at a place is before a row of a kind."""
        below = self._inverse_scale * self._factors[place] * self._machine.scales[kind]
        tables = {source: {} for source in sources}
        for powers, covector in self._machine.drawn(kind, self._covectors[place]).items():
            for source, number, factor in zip(sources, self._as_sum(covector), self._factors):
                tables[source][powers] = Ratio(number * factor, below)
        fields = self._loop.rows.fields_of(kind)
        return {source: Poly(fields, tables[source]) for source in sources}

    def _as_sum(self, covector):
        """Returns the numbers, times the scale of the inverse, with which a covector is a sum of the covectors."""
        values = _values(covector, self._vectors)
        return [dot(values, column) for column in self._inverse_columns]


def _ends_of(machine, told, one, vectors):
    """Returns the ends, in order, with the covectors of what is told with them behind.

    The vectors are such that all others are sums of them: a covector is known by its values with them.
    """
    space = Space(len(vectors))
    space.widen(_values(one, vectors))
    if not space.widen(_values(told, vectors)):
        return []
    found = []
    longest = [([], told)]
    while len(longest) > 0:
        found = found + longest
        longest = _longer_ends(machine, space, longest, vectors)
    return found


def _longer_ends(machine, space, longest, vectors):
    """Returns the ends with one row more than the longest so far, in order, with their covectors.

    A list is no end if it is not one without its first row: that row changes all sums in the same way.
    """
    found = []
    for kind in machine.rows.kinds():
        bundles = [machine.drawn(kind, end[1]) for end in longest]
        images = [_image(one, vectors) for one in bundles]
        point = first_point([rests(space, image) for image in images])
        while point is not None:
            for (rows, covector), bundle in zip(longest, bundles):
                before = at_point(bundle, point, len(covector))
                if space.widen(_values(before, vectors)):
                    found.append(([(kind, *point), *rows], before))
            point = first_point([rests(space, image) for image in images])
    return found


def _image(bundle, vectors):
    """Returns the bundle of the values of covectors with vectors."""
    return {powers: _values(covector, vectors) for powers, covector in bundle.items()}


def _beginnings_of(lists, covectors):
    """Returns those of the lists with vectors for which the values of the covectors are no sum of earlier ones."""
    space = Space(len(covectors))
    return [(rows, vector) for rows, vector in lists if space.widen(_values(vector, covectors))]


def _values(one, others):
    """Returns the list of the values of a covector with vectors, or of covectors with a vector."""
    return [dot(one, other) for other in others]


def _scale_of_rows(machine, rows):
    """Returns the factor by which a covector has grown that was drawn before some rows."""
    factor = 1
    for row in rows:
        factor = factor * machine.scales[row[0]]
    return factor
