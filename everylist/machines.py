"""Machines: loops as vectors and what rows make of them.

A vector has 1 at place 0 and behind it the registers, all times one number: for all questions asked here vectors only
matter up to a factor, so that all numbers are integers.
"""

from everylist.bundles import at_point, first_point, without_zeros
from everylist.vectors import Space, common_bottom, cut, dot, is_zero, made_whole, shortened


class Machine:
    """Vectors, and what rows of each kind make of them.

    `begins` is the vector of the empty list. `moves` has for each kind a dict from powers of its fields to lists of
    triples (target, source, number); `scales` has for each kind the factor with which its numbers became integers. If
    `prime` is not 0, all numbers stand for their rests by it.
    """

    def __init__(self, rows, begins, moves, prime=0):
        self.rows = rows
        self.prime = prime
        self.begins = made_whole(begins, common_bottom(begins))
        self.scales = {kind: _scale_of(moves[kind]) for kind in moves}
        self.moves = {kind: _whole_moves(moves[kind], self.scales[kind]) for kind in moves}

    def moved(self, kind, vector):
        """Returns the bundle of what a row of a kind makes of a vector, times the scale of the kind."""
        bundle = {}
        for powers, triples in self.moves[kind].items():
            total = [0] * len(vector)
            for target, source, number in triples:
                total[target] = total[target] + number * vector[source]
            bundle[powers] = total
        return without_zeros(bundle)

    def drawn(self, kind, covector):
        """Returns the bundle of the covector before a row of a kind, from the one behind it, times the scale."""
        bundle = {}
        for powers, triples in self.moves[kind].items():
            total = [0] * len(covector)
            for target, source, number in triples:
                total[source] = total[source] + number * covector[target]
            bundle[powers] = total
        return without_zeros(bundle)


def machine_of(loops):
    """Returns the machine of some loops over equal rows, side by side: their registers one behind the other."""
    rows = loops[0].rows
    begins = [1]
    for loop in loops:
        begins = begins + [loop.start(name) for name in loop.registers()]
    return Machine(rows, begins, {kind: _moves_of(loops, kind) for kind in rows.kinds()})


def machine_by_prime(loops, prime):
    """Returns the machine of some whole loops over equal rows, side by side, of the rests by a prime.

    An integer to the power of the prime has its own rest by the prime, so that no power needs to be as great.
    """
    machine = machine_of(loops)
    moves = {kind: _lesser_moves(machine.moves[kind], prime) for kind in machine.moves}
    return Machine(machine.rows, machine.begins, moves, prime)


def told_by(loop):
    """Returns the list of the numbers with which 1 and the registers go into what a loop tells."""
    return [loop.told_part(source) for source in sources_of(loop)]


def sources_of(loop):
    """Returns the list of the sources of a loop in the order of vectors: 1 and the registers."""
    return ["1", *loop.registers()]


def first_lists(machine, aim):
    """Returns those lists of rows, in order, whose vectors are no sums of those of earlier ones, with their vectors.

    A list that is not among them is not one with any row behind it. The lists end with the first one with which the
    aim, a covector, is not 0: no list that is left out can be the first one, for it is 0 with sums of earlier ones.
    """
    space = Space(len(machine.begins), machine.prime)
    space.widen(machine.begins)
    found = [([], machine.begins)]
    at = 0
    while at < len(found):
        rows, vector = found[at]
        if not _is_missed(machine, aim, vector):
            return found[:at + 1]
        found = found + _next_lists(machine, space, rows, vector)
        at += 1
    return found


def all_lists(machine):
    """Returns all lists of `first_lists`, with their vectors."""
    return first_lists(machine, [0] * len(machine.begins))


def first_list(machine, aim):
    """Returns the first list of rows with whose vector the aim, a covector, is not 0, or None."""
    rows, vector = first_lists(machine, aim)[-1]
    return None if _is_missed(machine, aim, vector) else rows


def _is_missed(machine, aim, vector):
    """Tells whether a covector is 0 with a vector."""
    return is_zero(cut([dot(aim, vector)], machine.prime))


def _next_lists(machine, space, rows, vector):
    """Returns the lists with one row more whose vectors widen the space, in order, with their vectors."""
    found = []
    for kind in machine.rows.kinds():
        bundle = machine.moved(kind, vector)
        point = first_point([rests(space, bundle)], machine.prime)
        while point is not None:
            behind = shortened(cut(at_point(bundle, point, len(vector)), machine.prime))
            space.widen(behind)
            found.append(([*rows, (kind, *point)], behind))
            point = first_point([rests(space, bundle)], machine.prime)
    return found


def rests(space, bundle):
    """Returns the bundle of what a space leaves of the vectors of a bundle."""
    if space.is_full():
        return {}
    return without_zeros({powers: space.rest(vector) for powers, vector in bundle.items()})


def _moves_of(loops, kind):
    """Returns the dict from powers to the triples of a kind, with any numbers."""
    moves = {(0,) * len(loops[0].rows.fields_of(kind)): [(0, 0, 1)]}
    shift = 0
    for loop in loops:
        names = loop.registers()
        for target, name in enumerate(names):
            for source, poly in _parts_of(loop, kind, name):
                place = 0 if source == "1" else shift + 1 + names.index(source)
                for powers, number in poly.terms().items():
                    moves.setdefault(powers, []).append((shift + 1 + target, place, number))
        shift = shift + len(names)
    return moves


def _lesser_moves(moves, prime):
    """Returns the moves of a kind with powers below a prime in the place of greater ones with the same rests."""
    found = {}
    for powers, triples in moves.items():
        lesser = tuple([power if power < prime else (power - 1) % (prime - 1) + 1 for power in powers])
        found.setdefault(lesser, []).extend(triples)
    return found


def _parts_of(loop, kind, name):
    """Returns the list of the pairs of the sources and their Polys in what a register becomes."""
    return [(source, loop.part(kind, name, source)) for source in sources_of(loop)]


def _scale_of(moves):
    """Returns the factor that makes all numbers of the moves of a kind integers."""
    return common_bottom([number for triples in moves.values() for _, _, number in triples])


def _whole_moves(moves, factor):
    """Returns the moves of a kind with all numbers times a factor that makes them integers."""
    found = {}
    for powers, triples in moves.items():
        numbers = made_whole([number for _, _, number in triples], factor)
        found[powers] = [(target, source, number) for (target, source, _), number in zip(triples, numbers)]
    return found
