"""What the order of rows does: which rows may change places or be left out, and the same is told.

All of it is read off the one form of a loop. As its registers are what the loop tells with some lists behind, and what
they can be is no less than all, two ways to change them tell the same always only if they are the same.
"""

from everylist.bundles import at_point, first_point, total_of, without_zeros
from everylist.errors import UnlikeFields
from everylist.machines import machine_of
from everylist.reducing import Form
from everylist.vectors import common_bottom, first_place, made_whole, times, unit


class Exchange:
    """The first list of rows with neighbours that cannot change places, and the place of the first of these."""

    def __init__(self, rows, place):
        self.rows = rows
        self.place = place


def exchange(loop, kind, other):
    """Returns the Exchange of rows of two kinds, or None if such neighbours can always change places."""
    # The rows raise NoKind themselves.
    many = len(loop.rows.fields_of(kind))
    loop.rows.fields_of(other)
    form = Form(loop)
    least = form.least()
    machine = machine_of([least])
    found = []
    for rows in form.beginnings:
        bundle = _swapped(machine, kind, other, _vector_behind(least, rows))
        if len(bundle) > 0:
            found.append(_first_behind(many, kind, other, rows, bundle, form.ends))
    if len(found) == 0:
        return None
    kinds = loop.rows.kinds()
    return min(found, key=lambda one: (_order_of(one.rows, kinds), one.place))


def orderless(loop):
    """Tells whether the loop tells the same of all lists that have the same rows in some order."""
    machine = machine_of([Form(loop).least()])
    kinds = loop.rows.kinds()
    for at, kind in enumerate(kinds):
        for other in kinds[at:]:
            if any([len(_swapped(machine, kind, other, vector)) > 0 for vector in _units(machine)]):
                return False
    return True


def idle(loop):
    """Returns the list of the kinds, in order, whose rows do nothing."""
    least = Form(loop).least()
    names = least.registers()
    return [kind for kind in loop.rows.kinds() if all([least.change(kind, name) == name for name in names])]


def idle_fields(loop, kind):
    """Returns the list of the fields of a kind, in order, whose numbers do nothing."""
    fields = loop.rows.fields_of(kind)
    powers = Form(loop).least().powers()[kind]
    return [field for field, power in zip(fields, powers) if power == 0]


def once(loop, kind):
    """Tells whether of two neighbours of a kind with the same numbers one can always be left out."""
    # The rows raise NoKind themselves.
    loop.rows.fields_of(kind)
    machine = machine_of([Form(loop).least()])
    scale = machine.scales[kind]
    for vector in _units(machine):
        one = [(powers, times(behind, -scale)) for powers, behind in machine.moved(kind, vector).items()]
        if len(total_of(_same_numbers(machine, kind, kind, vector) + one)) > 0:
            return False
    return True


def undoes(loop, kind, other):
    """Tells whether a row of a kind and one of another with the same numbers behind it can always be left out both."""
    # The rows raise NoKind themselves.
    fields = loop.rows.fields_of(kind)
    if len(fields) != len(loop.rows.fields_of(other)):
        raise UnlikeFields()
    machine = machine_of([Form(loop).least()])
    scale = machine.scales[kind] * machine.scales[other]
    for vector in _units(machine):
        none = [((0,) * len(fields), times(vector, -scale))]
        if len(total_of(_same_numbers(machine, kind, other, vector) + none)) > 0:
            return False
    return True


def _order_of(rows, kinds):
    """Returns what tells the order of lists of rows."""
    return len(rows), [(kinds.index(row[0]), row[1:]) for row in rows]


def _units(machine):
    """Returns the list of the vectors with one 1: what makes the same of all of them makes the same of all vectors."""
    size = len(machine.begins)
    return [unit(size, place) for place in range(size)]


def _vector_behind(loop, rows):
    """Returns the vector of a loop behind a list of rows."""
    numbers = [1, *list(loop.behind(rows).values())]
    return made_whole(numbers, common_bottom(numbers))


def _both(machine, kind, other, vector):
    """Returns triples of powers of a kind, powers of another and vectors: what a row of each makes of a vector."""
    return [(first, second, behind) for first, middle in machine.moved(kind, vector).items()
            for second, behind in machine.moved(other, middle).items()]


def _swapped(machine, kind, other, vector):
    """Returns the bundle, in the fields of two kinds, of what it does to a vector that two rows change places."""
    there = [((*first, *second), behind) for first, second, behind in _both(machine, kind, other, vector)]
    back = [((*first, *second), times(behind, -1)) for second, first, behind in _both(machine, other, kind, vector)]
    return total_of(there + back)


def _same_numbers(machine, kind, other, vector):
    """Returns pairs of powers and vectors: what two rows with the same numbers make of a vector."""
    return [(tuple([power + more for power, more in zip(first, second)]), behind)
            for first, second, behind in _both(machine, kind, other, vector)]


def _first_behind(many, kind, other, rows, bundle, ends):
    """Returns the first Exchange with some rows in front of two that cannot change places, the first with many fields.

    At place k + 1 the bundle tells what the exchange does to what is told with the end k behind.
    """
    short = min([len(end) for place, end in enumerate(ends) if not _is_zero_at(bundle, place + 1)])
    shortest = [place for place, end in enumerate(ends) if len(end) == short]
    cut = {powers: [vector[place + 1] for place in shortest] for powers, vector in bundle.items()}
    point = first_point([without_zeros(cut)])
    done = at_point(cut, point, len(shortest))
    end = ends[shortest[first_place(done)]]
    return Exchange([*rows, (kind, *point[:many]), (other, *point[many:]), *end], len(rows))


def _is_zero_at(bundle, place):
    """Tells whether the polynomial at a place of a bundle is 0."""
    return all([vector[place] == 0 for vector in bundle.values()])
