"""What the order of rows does: which rows may change places or be left out, and the same is told.

All of it is read off the one form of a loop. As its registers are what the loop tells with some lists behind, and what
they can be is no less than all, two ways to change them tell the same always only if they are the same.
"""

from everylist.bundles import at_point, first_point, total_of, without_zeros
from everylist.errors import UnlikeFields
from everylist.machines import machine_of
from everylist.matrices import applied, multiplied, row_matrix, step_matrices, times_one
from everylist.reducing import Form
from everylist.vectors import common_bottom, first_place, is_zero, made_whole, plus_times, times, unit


class Exchange:
    """The first list of rows with neighbours that cannot change places, and the place of the first of these."""

    def __init__(self, rows, place):
        self.rows = rows
        self.place = place


def exchange(loop, kind, other):
    """Returns the Exchange of rows of two kinds, or None if such neighbours can always change places."""
    # The rows raise NoKind themselves.
    loop.rows.fields_of(kind)
    loop.rows.fields_of(other)
    form = Form(loop)
    least = form.least()
    machine = machine_of([least])
    steps = step_matrices(machine, other)
    found = []
    for rows in form.beginnings:
        vector = _vector_behind(least, rows)
        bundle = _swaps(machine, kind, steps, vector)
        if len(bundle) > 0:
            two, end = _first_swap(machine, kind, other, vector, bundle, form.ends)
            found.append(Exchange([*rows, *two, *end], len(rows)))
    if len(found) == 0:
        return None
    kinds = loop.rows.kinds()
    return min(found, key=lambda one: (_order_of(one.rows, kinds), one.place))


def orderless(loop):
    """Tells whether the loop tells the same of all lists that have the same rows in some order."""
    machine = machine_of([Form(loop).least()])
    steps = [step_matrices(machine, kind) for kind in loop.rows.kinds()]
    for at, some in enumerate(steps):
        for others in steps[at:]:
            if any([multiplied(one, other) != multiplied(other, one) for one in some for other in others]):
                return False
    return True


def idle(loop):
    """Returns the list of the kinds, in order, whose rows do nothing."""
    least = Form(loop).least()
    names = least.registers()
    return [kind for kind in loop.rows.kinds() if all([least.change(kind, name) == name for name in names])]


def idle_fields(loop, kind):
    """Returns the list of the fields of a kind, in order, whose numbers do nothing."""
    fields = loop.rows.fields_of(kind)
    powers = Form(loop).least().powers()[kind]
    return [field for field, power in zip(fields, powers) if power == 0]


def once(loop, kind):
    """Tells whether of two neighbours of a kind with the same numbers one can always be left out."""
    # The rows raise NoKind themselves.
    loop.rows.fields_of(kind)
    machine = machine_of([Form(loop).least()])
    scale = machine.scales[kind]
    matrix = row_matrix(machine, _some_row(loop, kind))
    if multiplied(matrix, matrix) != [times(numbers, scale) for numbers in matrix]:
        return False
    for vector in _units(machine):
        one = [(powers, times(behind, -scale)) for powers, behind in machine.moved(kind, vector).items()]
        if len(total_of(_same_numbers(machine, kind, kind, vector) + one)) > 0:
            return False
    return True


def undoes(loop, kind, other):
    """Tells whether a row of a kind and one of another with the same numbers behind it can always be left out both."""
    # The rows raise NoKind themselves.
    fields = loop.rows.fields_of(kind)
    if len(fields) != len(loop.rows.fields_of(other)):
        raise UnlikeFields()
    machine = machine_of([Form(loop).least()])
    scale = machine.scales[kind] * machine.scales[other]
    one, two = [row_matrix(machine, _some_row(loop, each)) for each in (kind, other)]
    if multiplied(two, one) != times_one(len(one), scale):
        return False
    for vector in _units(machine):
        none = [((0,) * len(fields), times(vector, -scale))]
        if len(total_of(_same_numbers(machine, kind, other, vector) + none)) > 0:
            return False
    return True


def _some_row(loop, kind):
    """Returns a row of a kind.

    Of most rows it shows at once that they do something, before all powers of their fields are looked at.
    """
    return (kind, *[place + 2 for place in range(len(loop.rows.fields_of(kind)))])


def _order_of(rows, kinds):
    """Returns what tells the order of lists of rows."""
    return len(rows), [(kinds.index(row[0]), row[1:]) for row in rows]


def _units(machine):
    """Returns the list of the vectors with one 1: what makes the same of all of them makes the same of all vectors."""
    size = len(machine.begins)
    return [unit(size, place) for place in range(size)]


def _vector_behind(loop, rows):
    """Returns the vector of a loop behind a list of rows."""
    numbers = [1, *list(loop.behind(rows).values())]
    return made_whole(numbers, common_bottom(numbers))


def _same_numbers(machine, kind, other, vector):
    """Returns pairs of powers and vectors: what two rows with the same numbers make of a vector."""
    return [(tuple([power + more for power, more in zip(first, second)]), behind)
            for first, middle in machine.moved(kind, vector).items()
            for second, behind in machine.moved(other, middle).items()]


def _swaps(machine, kind, steps, vector):
    """Returns the bundle of what it does to a vector that a row of a kind changes places with each of some steps.

    The vectors that the steps give stand one behind the other.
    """
    zero = [0 for _ in vector]
    there = machine.moved(kind, vector)
    back = [machine.moved(kind, applied(step, vector)) for step in steps]
    bundle = {}
    for powers in machine.moves[kind]:
        middle = there.get(powers, zero)
        bundle[powers] = []
        for step, swapped in zip(steps, back):
            bundle[powers].extend(plus_times(applied(step, middle), swapped.get(powers, zero), -1))
    return without_zeros(bundle)


def _first_swap(machine, kind, other, vector, bundle, ends):
    """Returns the first rows of two kinds behind a vector that cannot change places, and the first end that tells it.

    At place k + 1 of each vector stands what is told with the end k behind.
    """
    size = len(vector)
    short = min([len(end) for place, end in enumerate(ends) if not _is_zero_at(bundle, place + 1, size)])
    shortest = [place + 1 for place, end in enumerate(ends) if len(end) == short]
    row = (kind, *first_point([_parts_at(bundle, shortest, size)]))
    matrix = row_matrix(machine, row)
    there = list(machine.moved(other, applied(matrix, vector)).items())
    back = [(powers, times(applied(matrix, behind), -1)) for powers, behind in machine.moved(other, vector).items()]
    behind_row = _parts_at(total_of(there + back), shortest, size)
    point = first_point([behind_row])
    seen = first_place(at_point(behind_row, point, len(shortest)))
    return [row, (other, *point)], ends[shortest[seen] - 1]


def _is_zero_at(bundle, place, size):
    """Tells whether the polynomials at a place are 0 in a bundle of vectors of so many places behind each other."""
    return all([is_zero(vector[place::size]) for vector in bundle.values()])


def _parts_at(bundle, chosen, size):
    """Returns a bundle of vectors of so many places behind each other with some of the places alone."""
    return without_zeros({powers: [number for place, number in enumerate(vector) if place % size in chosen]
                          for powers, vector in bundle.items()})
