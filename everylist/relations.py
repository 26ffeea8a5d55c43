"""Relations that hold between the registers of a loop behind every list."""

from everylist.errors import NoRegister
from everylist.machines import Machine, all_lists, first_list, machine_of, sources_of
from everylist.ratios import Ratio, plain
from everylist.vectors import Space, common_bottom, made_whole
from everylist.writing import terms_text


class Relation:
    """A sum of monomials, tuples of at most two registers, each times a number, that is to be 0."""

    def __init__(self, terms):
        monomials = sorted(list(terms), key=lambda monomial: (len(monomial), monomial))
        self._terms = {monomial: plain(terms[monomial]) for monomial in monomials if terms[monomial] != 0}

    def __eq__(self, other):
        return isinstance(other, Relation) and self._terms == other._terms

    def __str__(self):
        terms = [(number, list(monomial)) for monomial, number in list(self._terms.items())[::-1]]
        return f"{terms_text(terms)} = 0"

    def terms(self):
        """Returns the dict from monomials to plain numbers, none of them 0, in order."""
        return {monomial: number for monomial, number in self._terms.items()}


def relations(loop, degree):
    """Returns the list of Relation objects that tells all relations of at most this degree, 1 or 2."""
    machine = machine_of([loop])
    monomials = [(), *[(name,) for name in loop.registers()]]
    if degree == 2:
        monomials = [(*monomials[low], *monomials[high]) for low, high in _pairs(len(monomials))]
        machine = _squared(machine)
    space = Space(len(monomials))
    for _, vector in all_lists(machine):
        space.widen(vector)
    return _relations_of(space, monomials)


def holds(loop, relation):
    """Returns the first list of rows behind which what a relation says is not 0, or None if it always is."""
    sources = sources_of(loop)
    terms = relation.terms()
    for monomial in terms:
        for name in monomial:
            if name not in sources[1:]:
                raise NoRegister(name)
    machine = machine_of([loop])
    pairs = [(0, place) for place in range(len(sources))]
    if any([len(monomial) == 2 for monomial in terms]):
        machine = _squared(machine)
        pairs = _pairs(len(sources))
    numbers = [0] * len(pairs)
    for monomial, number in terms.items():
        place = pairs.index(_pair_of(monomial, sources))
        numbers[place] = numbers[place] + number
    return first_list(machine, made_whole(numbers, common_bottom(numbers)))


def _relations_of(space, monomials):
    """Returns the list of the relations of the monomials whose vectors make up a space.

    Each monomial that is no pivot is the sum of those before it that are pivots, times what their rows have there.
    """
    rows = space.by_pivots()
    found = []
    for place, monomial in enumerate(monomials):
        if place not in rows:
            terms = {monomials[pivot]: Ratio(-row[place], space.scale()) for pivot, row in rows.items()}
            terms[monomial] = 1
            found.append(Relation(terms))
    return found


def _pairs(size):
    """Returns the list of the pairs of places of a vector, the lesser one first, in the order of the monomials."""
    return [(low, high) for low in range(size) for high in range(low, size)]


def _pair_of(monomial, sources):
    """Returns the pair of places of a monomial, where the place of 1 stands for what it has not."""
    places = sorted([sources.index(name) for name in ("1", "1", *monomial)[-2:]])
    return places[0], places[1]


def _squared(machine):
    """Returns the machine whose vectors are the products of two numbers of those of a machine."""
    pairs = _pairs(len(machine.begins))
    begins = [machine.begins[low] * machine.begins[high] for low, high in pairs]
    return Machine(machine.rows, begins, {kind: _squared_moves(machine, kind, pairs) for kind in machine.moves})


def _squared_moves(machine, kind, pairs):
    """Returns the moves of products: that of two sums is the sum of the products of all of their terms."""
    sums = [[] for _ in machine.begins]
    for powers, triples in machine.moves[kind].items():
        for target, source, number in triples:
            sums[target].append((powers, source, number))
    places = {pair: place for place, pair in enumerate(pairs)}
    moves = {}
    for low, high in pairs:
        for (powers, source), number in _product(sums[low], sums[high]).items():
            moves.setdefault(powers, []).append((places[(low, high)], places[source], number))
    return moves


def _product(one, other):
    """Returns the dict from pairs of powers and of pairs of places to numbers that is the product of two sums."""
    total = {}
    for first, source, number in one:
        for second, place, factor in other:
            powers = tuple([power + more for power, more in zip(first, second)])
            term = (powers, (min(source, place), max(source, place)))
            total[term] = total.get(term, 0) + number * factor
    return total
