"""The places of the numbers of a loop, and which single number, changed, makes a loop alike to another one."""

from everylist.checks import is_int, is_list
from everylist.comparing import alike, parting
from everylist.errors import Alike, BadNumber, NoPlace
from everylist.loops import loop_of_parts
from everylist.machines import sources_of
from everylist.polys import Poly
from everylist.ratios import Ratio, is_number, plain


def places(loop):
    """Returns the list of the places of a loop: starts, then numbers in what registers become, then in what is told."""
    names = loop.registers()
    sources = [*names, "1"]
    found = [("start", name) for name in names]
    for kind in loop.rows.kinds():
        for name in names:
            for source in sources:
                found = found + [("on", kind, name, source, powers) for powers in loop.part(kind, name, source).terms()]
    return found + [("tell", source) for source in sources if loop.told_part(source) != 0]


def number_at(loop, place):
    """Returns the number at a place of a loop."""
    known = _known_place(loop, place)
    if known[0] == "start":
        return loop.start(known[1])
    if known[0] == "tell":
        return loop.told_part(known[1])
    return loop.part(known[1], known[2], known[3]).terms()[known[4]]


def put_at(loop, place, number):
    """Returns the loop with another number at one of its places."""
    known = _known_place(loop, place)
    if not is_number(number):
        raise BadNumber(number)
    names = loop.registers()
    sources = sources_of(loop)
    starts = {name: loop.start(name) for name in names}
    told = {source: Poly([], {(): loop.told_part(source)}) for source in sources}
    changes = {}
    for kind in loop.rows.kinds():
        changes[kind] = {name: {source: loop.part(kind, name, source) for source in sources} for name in names}
    if known[0] == "start":
        starts[known[1]] = number
    elif known[0] == "tell":
        told[known[1]] = Poly([], {(): number})
    else:
        parts = changes[known[1]][known[2]]
        terms = parts[known[3]].terms()
        terms[known[4]] = number
        parts[known[3]] = Poly(loop.rows.fields_of(known[1]), terms)
    return loop_of_parts(loop.rows, starts, changes, told)


def mends(loop, wish):
    """Returns the list of the pairs of a place and a number with which `put_at` makes a loop alike to another one."""
    if alike(loop, wish):
        raise Alike()
    found = []
    for place in places(loop):
        number = _mend_at(loop, wish, place)
        if number is not None:
            found.append((place, number))
    return found


def _mend_at(loop, wish, place):
    """Returns the number that at a place makes a loop alike to another one, or None.

    For the first list for which the number matters, what is told is a number and another one times it: what is told
    with 0 and with 1 at the place tells both.
    """
    none = put_at(loop, place, 0)
    matters = parting(none, put_at(loop, place, 1))
    if matters is None:
        return None
    with_none, with_one = matters.tells
    number = plain((Ratio(1) * (wish.run(matters.rows) - with_none)).over(with_one - with_none))
    return number if alike(put_at(loop, place, number), wish) else None


def _known_place(loop, thing):
    """Returns the place of a loop, as `places` tells it, that a thing is, or raises NoPlace."""
    for place in places(loop):
        if _is_same(place, thing):
            return place
    raise NoPlace(thing)


def _is_same(known, thing):
    """Tells of any object whether it is a place, or a part of one, with a list for a tuple at will."""
    if isinstance(known, tuple):
        if not is_list(thing) or len(thing) != len(known):
            return False
        return all([_is_same(part, other) for part, other in zip(known, thing)])
    # A bool or a Ratio may be equal to an integer, and any object to a string.
    is_kin = isinstance(thing, str) if isinstance(known, str) else is_int(thing)
    return is_kin and known == thing
