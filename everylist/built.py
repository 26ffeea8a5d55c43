"""Loops built of loops."""

from everylist.building import loop_of_tables, one_in, starts_of, table_of, tables_of, told_parts, without_zeros
from everylist.errors import NameInUse, NoWay, UnlikeRows
from everylist.loops import loop_of_parts
from everylist.machines import sources_of, told_by
from everylist.rows import Rows


def plus(one, other):
    """Returns a loop that tells the sum of what two loops tell."""
    return _added(one, other, 1)


def minus(one, other):
    """Returns a loop that tells the difference of what two loops tell."""
    return _added(one, other, -1)


def product(one, other):
    """Returns a loop that tells the product of what two loops tell.

    Its places are the pairs of places of both, and hold the products of what these hold.
    """
    _check_rows(one, other)
    size = len(told_by(other))
    tables = {}
    for kind in one.rows.kinds():
        table = table_of(other, kind)
        tables[kind] = [_multiplied(parts, more, size) for parts in table_of(one, kind) for more in table]
    return loop_of_tables(one.rows, _products(starts_of(one), starts_of(other)), tables,
                          _products(told_by(one), told_by(other)))


def scaled(loop, number):
    """Returns a loop that tells what a loop tells, times a number."""
    return _telling(loop, [number * part for part in told_by(loop)])


def turned(loop):
    """Returns a loop that tells of a list what a loop tells of its rows from the last to the first.

    Its registers are the numbers with which 1 and the registers of the loop go into what is told of the rows so far.
    """
    size = len(told_by(loop))
    tables = {}
    for kind, table in tables_of(loop).items():
        columns = [{} for _ in range(size + 1)]
        for target, parts in enumerate(table):
            for source, poly in parts.items():
                columns[source + 1][target + 1] = poly
        tables[kind] = columns
    return loop_of_tables(loop.rows, [1, *told_by(loop)], tables, [0, *starts_of(loop)])


def after(loop, rows):
    """Returns a loop that tells of a list what a loop tells of some rows with the list behind."""
    return loop_of_parts(loop.rows, loop.behind(rows), _changes_of(loop), _told_of(loop))


def before(loop, rows):
    """Returns a loop that tells of a list what a loop tells of it with some rows behind."""
    # The loop raises BadRow itself.
    loop.behind(rows)
    numbers = told_by(loop)
    for row in reversed(list(rows)):
        numbers = _drawn(loop, row, numbers)
    return _telling(loop, numbers)


def running(loop):
    """Returns a loop that tells the sum of what a loop tells of all beginnings of a list but the empty one."""
    told = told_by(loop)
    size = len(told)
    tables = tables_of(loop)
    for kind in list(tables):
        last = _sum_of_parts([_times(parts, number) for parts, number in zip(tables[kind], told)])
        tables[kind] = [*tables[kind], {**last, size: one_in(loop.rows.fields_of(kind))}]
    return loop_of_tables(loop.rows, [*starts_of(loop), 0], tables, [*[0 for _ in told], 1])


def only(loop, kinds):
    """Returns the loop over rows of some of its kinds alone."""
    for kind in kinds:
        # The rows raise NoKind themselves.
        loop.rows.fields_of(kind)
    kept = [kind for kind in loop.rows.kinds() if kind in kinds]
    rows = Rows([[kind, loop.rows.fields_of(kind)] for kind in kept])
    changes = _changes_of(loop)
    return loop_of_parts(rows, _starts_by_names(loop), {kind: changes[kind] for kind in kept}, _told_of(loop))


def led(loop, rows, ways):
    """Returns a loop over rows that tells what a loop tells of the list with each row replaced by those of its way."""
    tables = {kind: _way_table(loop, rows, kind, ways) for kind in rows.kinds()}
    return loop_of_tables(rows, starts_of(loop), tables, told_by(loop))


def beside(one, other):
    """Returns the loop with the registers of two loops that tells what the first one tells."""
    _check_rows(one, other)
    for name in other.registers():
        if name in one.registers():
            raise NameInUse(name)
    more = _changes_of(other)
    changes = {kind: {**parts, **more[kind]} for kind, parts in _changes_of(one).items()}
    return loop_of_parts(one.rows, {**_starts_by_names(one), **_starts_by_names(other)}, changes, _told_of(one))


def _check_rows(one, other):
    if one.rows != other.rows:
        raise UnlikeRows()


def _starts_by_names(loop):
    """Returns the dict from the registers to the numbers with which they begin."""
    return {name: loop.start(name) for name in loop.registers()}


def _changes_of(loop):
    """Returns the dict from the kinds to the dicts from the registers to the parts of what they become."""
    names = loop.registers()
    return {kind: {name: _parts_of(loop, kind, name) for name in names} for kind in loop.rows.kinds()}


def _parts_of(loop, kind, name):
    """Returns the dict from the sources to the Polys with which they go into what a register becomes."""
    return {source: loop.part(kind, name, source) for source in sources_of(loop)}


def _told_of(loop):
    """Returns the parts of what a loop tells."""
    return told_parts(dict(zip(sources_of(loop), told_by(loop))))


def _telling(loop, numbers):
    """Returns the loop that tells the sum of 1 and the registers of a loop, each times one of the numbers."""
    told = told_parts(dict(zip(sources_of(loop), numbers)))
    return loop_of_parts(loop.rows, _starts_by_names(loop), _changes_of(loop), told)


def _drawn(loop, row, numbers):
    """Returns the numbers with which 1 and the registers go into a sum, from those behind a row."""
    before_row = [0 for _ in numbers]
    for parts, number in zip(table_of(loop, row[0]), numbers):
        for place, poly in parts.items():
            before_row[place] = before_row[place] + number * poly.at(row[1:])
    return before_row


def _added(one, other, sign):
    """Returns a loop that tells what a loop tells and, times a sign, what another one tells."""
    _check_rows(one, other)
    shift = len(told_by(one)) - 1
    tables = {}
    for kind in one.rows.kinds():
        tables[kind] = table_of(one, kind) + [_shifted(parts, shift) for parts in table_of(other, kind)[1:]]
    mine = told_by(one)
    more = [sign * number for number in told_by(other)]
    return loop_of_tables(one.rows, starts_of(one) + starts_of(other)[1:], tables,
                          [mine[0] + more[0], *mine[1:], *more[1:]])


def _shifted(parts, shift):
    """Returns the parts with the places of registers moved on."""
    return {place + shift if place > 0 else 0: poly for place, poly in parts.items()}


def _products(one, other):
    """Returns the list of the products of the numbers of two lists."""
    return [number * factor for number in one for factor in other]


def _multiplied(one, other, size):
    """Returns the parts of the product of two sums, the second one of which has so many places."""
    return {place * size + more: poly * factor for place, poly in one.items() for more, factor in other.items()}


def _times(parts, factor):
    """Returns the parts of a sum, times a number or a polynomial."""
    return {place: poly * factor for place, poly in parts.items()}


def _sum_of_parts(sums):
    """Returns the parts of the sum of some sums."""
    total = {}
    for parts in sums:
        for place, poly in parts.items():
            total[place] = total[place] + poly if place in total else poly
    return without_zeros(total)


def _way_table(loop, rows, kind, ways):
    """Returns the table of the rows of the way of a kind, one behind the other."""
    if kind not in ways:
        raise NoWay(kind)
    fields = rows.fields_of(kind)
    table = [{place: one_in(fields)} for place in range(len(told_by(loop)))]
    for target, polys in ways[kind]:
        # The loop raises NoKind itself, and the Polys into which others are put raise WrongCount, then OtherFields.
        table = _behind(table, table_of(loop, target), fields, polys)
    return table


def _behind(table, step, fields, polys):
    """Returns the table of some rows and one more, whose table this is, with polynomials in the place of its fields."""
    found = []
    for parts in step:
        put = {place: poly.put(fields, polys) for place, poly in parts.items()}
        found.append(_sum_of_parts([_times(table[place], poly) for place, poly in put.items()]))
    return found
