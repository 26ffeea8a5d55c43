"""The one form of a loop, with the fewest registers, and loops without one of their registers."""

from everylist.comparing import alike
from everylist.errors import NoRegister
from everylist.loops import loop_of_parts
from everylist.machines import sources_of
from everylist.polys import Poly
from everylist.reducing import Form


def ends(loop):
    """Returns the list of the lists of rows that tell all functions of what the loop tells with a list behind."""
    return Form(loop).ends


def beginnings(loop):
    """Returns the list of the lists of rows that tell all that the loop can know behind a list."""
    return Form(loop).beginnings


def least(loop):
    """Returns the one form of a loop: the alike loop with one register for each end."""
    return Form(loop).least()


def without(loop, name):
    """Returns the loop without a register, with 0 in its place wherever it stood."""
    names = loop.registers()
    if not isinstance(name, str) or name not in names:
        raise NoRegister(name)
    kept = [other for other in names if other != name]
    sources = [source for source in sources_of(loop) if source != name]
    changes = {}
    for kind in loop.rows.kinds():
        changes[kind] = {target: {source: loop.part(kind, target, source) for source in sources} for target in kept}
    told = {source: Poly([], {(): loop.told_part(source)}) for source in sources}
    return loop_of_parts(loop.rows, {other: loop.start(other) for other in kept}, changes, told)


def needless(loop):
    """Returns the list of those registers, in order, without which, one by one, the loop is alike."""
    return [name for name in loop.registers() if alike(loop, without(loop, name))]
