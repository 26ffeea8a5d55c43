"""Loops made of tables of polynomials, in which registers are known by their places.

Place 0 stands for the number 1, and the registers have the places from 1 on. A table has for each place a dict from
places to the Polys with which they go into what stands there behind a row.
"""

from everylist.checks import LETTERS
from everylist.loops import loop_of_parts
from everylist.machines import sources_of
from everylist.polys import Poly

FIRST_LETTERS = "rstuvwxyz"


def free_names(rows, many):
    """Returns the list of the first names for registers that are no fields."""
    fields = [field for kind in rows.kinds() for field in rows.fields_of(kind)]
    names = [f"{first}{second}" for first in FIRST_LETTERS for second in LETTERS]
    return [name for name in names if name not in fields][:many]


def starts_of(loop):
    """Returns the list of the numbers with which the places of a loop begin."""
    return [1, *[loop.start(name) for name in loop.registers()]]


def one_in(fields):
    """Returns the polynomial 1."""
    return Poly(fields, {(0,) * len(fields): 1})


def table_of(loop, kind):
    """Returns the table of a kind of a loop."""
    sources = sources_of(loop)
    table = [{0: one_in(loop.rows.fields_of(kind))}]
    for name in sources[1:]:
        table.append({place: loop.part(kind, name, source) for place, source in enumerate(sources)})
    return [without_zeros(parts) for parts in table]


def tables_of(loop):
    """Returns the dict from the kinds of a loop to their tables."""
    return {kind: table_of(loop, kind) for kind in loop.rows.kinds()}


def without_zeros(parts):
    """Returns a dict from places to Polys without those that are 0."""
    return {place: poly for place, poly in parts.items() if len(poly.terms()) > 0}


def loop_of_tables(rows, starts, tables, told):
    """Returns the loop of these starts, tables and numbers that go into what is told, all by places.

    What they say of place 0 is known: it always holds 1.
    """
    names = free_names(rows, len(starts) - 1)
    sources = ["1", *names]
    changes = {}
    for kind, table in tables.items():
        changes[kind] = {name: _by_sources(parts, sources) for name, parts in zip(names, table[1:])}
    return loop_of_parts(rows, dict(zip(names, starts[1:])), changes, told_parts(dict(zip(sources, told))))


def told_parts(numbers):
    """Returns the parts of what is told, from a dict from sources to numbers."""
    return {source: Poly([], {(): number}) for source, number in numbers.items()}


def _by_sources(parts, sources):
    """Returns the parts by their sources in the place of their places."""
    return {sources[place]: poly for place, poly in parts.items()}
