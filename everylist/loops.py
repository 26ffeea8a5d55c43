"""Loops over lists of rows."""

from everylist.checks import is_name
from everylist.errors import BadName, BadNumber, BadRow, NoRegister
from everylist.polys import Poly
from everylist.ratios import is_number, plain
from everylist.sums import read_sum, sum_text


class Loop:
    """Registers with their starts, what they become at a row of each kind, and what is told behind the list."""

    def __init__(self, rows, starts, changes, told):
        _check_starts(rows, starts)
        _check_keys(rows, starts, changes)
        self.rows = rows
        self._starts = {name: plain(starts[name]) for name in starts}
        self._parts = _unchanged(rows, starts)
        for kind in changes:
            for name in changes[kind]:
                self._parts[kind][name] = read_sum(changes[kind][name], list(starts), rows.fields_of(kind))
        self._told = read_sum(told, list(starts), [])

    def __eq__(self, other):
        if not isinstance(other, Loop) or self.rows != other.rows:
            return False
        # Two dicts are equal in any order of their keys, but the order of the registers counts.
        if list(self._starts.items()) != list(other._starts.items()):
            return False
        return self._parts == other._parts and self._told == other._told

    def registers(self):
        """Returns the list of the registers, in order."""
        return list(self._starts)

    def start(self, name):
        """Returns the number with which a register begins."""
        self._check_register(name)
        return self._starts[name]

    def part(self, kind, name, source):
        """Returns the Poly with which a source goes into what a register becomes at a row of a kind."""
        fields = self.rows.fields_of(kind)
        self._check_register(name)
        self._check_source(source)
        parts = self._parts[kind][name]
        return parts[source] if source in parts else Poly(fields, {})

    def told_part(self, source):
        """Returns the number with which a source goes into what is told."""
        self._check_source(source)
        return self._told[source].at([]) if source in self._told else 0

    def change(self, kind, name):
        """Returns the one text of what a register becomes at a row of a kind."""
        self._check_kind(kind)
        self._check_register(name)
        return sum_text(self._parts[kind][name], self.registers())

    def told(self):
        """Returns the one text of what is told."""
        return sum_text(self._told, self.registers())

    def run(self, rows):
        """Returns the number that is told behind a list of rows."""
        return _sum_at(self._told, [], self.behind(rows))

    def behind(self, rows):
        """Returns the dict from the registers, in order, to their numbers behind a list of rows."""
        numbers = dict(self._starts)
        for index, row in enumerate(rows):
            if not self.rows.is_row(row):
                raise BadRow(index)
            changes = self._parts[row[0]]
            numbers = {name: _sum_at(changes[name], row[1:], numbers) for name in numbers}
        return numbers

    def powers(self):
        """Returns the dict from the kinds to the lists of the greatest powers of their fields."""
        return {kind: self._powers_of(kind) for kind in self.rows.kinds()}

    def _powers_of(self, kind):
        polys = [poly for parts in self._parts[kind].values() for poly in parts.values()]
        return [max([poly.power(k) for poly in polys], default=0) for k in range(len(self.rows.fields_of(kind)))]

    def _check_kind(self, thing):
        # The rows raise NoKind themselves.
        self.rows.fields_of(thing)

    def _check_register(self, thing):
        if not self._is_register(thing):
            raise NoRegister(thing)

    def _check_source(self, thing):
        if not self._is_register(thing) and not (isinstance(thing, str) and thing == "1"):
            raise NoRegister(thing)

    def _is_register(self, thing):
        # Not every object can be looked for in a dict; a string can.
        return isinstance(thing, str) and thing in self._starts


def loop_of_parts(rows, starts, changes, told):
    """Returns a loop whose sums are told by their parts, not by texts.

    Powers in parts may have more digits than those in texts that are read.
    """
    loop = Loop(rows, starts, {}, "0")
    _check_keys(rows, starts, changes)
    for kind in changes:
        for name in changes[kind]:
            loop._parts[kind][name] = _without_zeros(changes[kind][name])
    loop._told = _without_zeros(told)
    return loop


def _check_starts(rows, starts):
    """Raises the error for the first register or start that a loop cannot have."""
    fields = [field for kind in rows.kinds() for field in rows.fields_of(kind)]
    for name in starts:
        if not is_name(name) or name in fields:
            raise BadName(name)
    for name in starts:
        if not is_number(starts[name]):
            raise BadNumber(starts[name])


def _check_keys(rows, starts, changes):
    """Raises the error for the first key of changes that is no kind or register."""
    for kind in changes:
        # The rows raise NoKind themselves.
        rows.fields_of(kind)
    for kind in changes:
        for name in changes[kind]:
            if name not in starts:
                raise NoRegister(name)


def _unchanged(rows, names):
    """Returns the parts of all registers for all kinds, if each register stays as it is."""
    table = {}
    for kind in rows.kinds():
        fields = rows.fields_of(kind)
        table[kind] = {name: {name: Poly(fields, {(0,) * len(fields): 1})} for name in names}
    return table


def _without_zeros(parts):
    """Returns the parts of a sum without those that are 0."""
    return {source: poly for source, poly in parts.items() if len(poly.terms()) > 0}


def _sum_at(parts, fields, registers):
    """Returns the plain value of a sum, where its fields and registers have these numbers."""
    total = 0
    for source, poly in parts.items():
        worth = poly.at(fields)
        total = total + (worth if source == "1" else worth * registers[source])
    return plain(total)
