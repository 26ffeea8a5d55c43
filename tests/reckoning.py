"""A reckoning of the tests' own: loops as plain Python data, run over lists with Fractions, and grids gone through.

Nothing here asks the program for an answer. A sum is a dict from pairs (source, powers) to Fractions, where the source
is a register or "1".
"""

import itertools
from fractions import Fraction

from everylist.loops import Loop
from everylist.ratios import Ratio
from everylist.rows import Rows


def number_of(fraction):
    """The plain number of the package with the value of a Fraction."""
    fraction = Fraction(fraction)
    if fraction.denominator == 1:
        return fraction.numerator
    return Ratio(fraction.numerator, fraction.denominator)


def value(number):
    """The Fraction of a number of the package."""
    return Fraction(number.top, number.bottom) if isinstance(number, Ratio) else Fraction(number)


def sum_words(terms, fields):
    """A text of a sum, its terms as they come."""
    words = []
    for (source, powers), number in terms.items():
        sign = "-" if number < 0 else "+"
        words.append(sign if words else sign.replace("+", ""))
        factors = [str(abs(number))]
        factors += [field if power == 1 else f"{field}^{power}" for field, power in zip(fields, powers) if power]
        words.append("*".join(factors + ([] if source == "1" else [source])))
    if not words:
        return "0"
    return " ".join(words) if words[0] else " ".join(words[1:])


def text_of(terms, fields):
    """The text of a sum as `read_sum` takes it: the first sign stands beside its term."""
    text = sum_words(terms, fields)
    return "-" + text[2:] if text.startswith("- ") else text


class Model:
    """A loop as plain data: pairs of kinds and fields, starts, changes and what is told, all numbers Fractions."""

    def __init__(self, kinds, starts, changes, told):
        self.kinds = kinds
        self.starts = {name: Fraction(number) for name, number in starts.items()}
        self.changes = {}
        for kind, fields in kinds:
            given = changes.get(kind, {})
            stay = {name: {(name, (0,) * len(fields)): Fraction(1)} for name in starts}
            self.changes[kind] = {name: given.get(name, stay[name]) for name in starts}
            for name, terms in self.changes[kind].items():
                self.changes[kind][name] = {term: Fraction(number) for term, number in terms.items() if number != 0}
        self.told = {source: Fraction(number) for source, number in told.items() if number != 0}

    def loop(self):
        """The Loop of the package."""
        fields = dict(self.kinds)
        changes = {kind: {name: text_of(terms, fields[kind]) for name, terms in sums.items()}
                   for kind, sums in self.changes.items()}
        told = text_of({(source, ()): number for source, number in self.told.items()}, ())
        starts = {name: number_of(number) for name, number in self.starts.items()}
        return Loop(Rows(self.kinds), starts, changes, told)

    def behind(self, rows, numbers=None):
        """The dict from the registers to their Fractions behind a list, from the starts or other numbers on."""
        numbers = dict(self.starts if numbers is None else numbers)
        for kind, *worths in rows:
            worths = [value(worth) for worth in worths]
            new = {}
            for name, terms in self.changes[kind].items():
                total = Fraction(0)
                for (source, powers), number in terms.items():
                    for worth, power in zip(worths, powers):
                        number = number * worth ** power
                    total += number if source == "1" else number * numbers[source]
                new[name] = total
            numbers = new
        return numbers

    def tell(self, numbers):
        """What is told when the registers hold these numbers."""
        return sum([number if source == "1" else number * numbers[source] for source, number in self.told.items()],
                   Fraction(0))

    def run(self, rows):
        """What is told behind a list."""
        return self.tell(self.behind(rows))

    def powers(self):
        """The dict from the kinds to the greatest powers of their fields."""
        found = {}
        for kind, fields in self.kinds:
            powers = [term[1] for terms in self.changes[kind].values() for term in terms]
            found[kind] = [max([one[k] for one in powers], default=0) for k in range(len(fields))]
        return found


def joined_powers(models):
    """The greatest powers of some models over the same kinds."""
    tables = [model.powers() for model in models]
    return {kind: [max(column) for column in zip(*[table[kind] for table in tables])] for kind in tables[0]}


def grid_rows(kinds, powers):
    """The rows of a grid, in order."""
    return [(kind, *numbers) for kind, fields in kinds
            for numbers in itertools.product(*[range(top + 1) for top in powers[kind]])]


def grid_lists(kinds, powers, most):
    """All lists of at most so many rows of a grid, in order."""
    rows = grid_rows(kinds, powers)
    return [list(one) for many in range(most + 1) for one in itertools.product(rows, repeat=many)]


class Span:
    """The sums of some vectors of Fractions."""

    def __init__(self):
        self.rows = []

    def take(self, vector):
        """Takes a vector, and tells whether it is no sum of the earlier ones."""
        vector = [Fraction(number) for number in vector]
        for place, row in self.rows:
            if vector[place]:
                vector = [number - vector[place] * other for number, other in zip(vector, row)]
        for place, number in enumerate(vector):
            if number:
                self.rows.append((place, [one / number for one in vector]))
                return True
        return False


def first_unlike(one, other, most):
    """The first list of at most so many rows of the grid of two models for which they do not tell the same."""
    for rows in grid_lists(one.kinds, joined_powers([one, other]), most):
        if one.run(rows) != other.run(rows):
            return rows
    return None


def ends_of(model):
    """The ends, by what is told of all lists of the grid that are long enough."""
    lists = grid_lists(model.kinds, model.powers(), len(model.starts))
    held = [model.behind(rows) for rows in lists]
    span = Span()
    span.take([1] * len(lists))
    return [end for end in lists if span.take([model.tell(model.behind(end, numbers)) for numbers in held])]


def beginnings_of(model):
    """The beginnings, by what is told of them with all ends behind."""
    ends = ends_of(model)
    span = Span()
    return [rows for rows in grid_lists(model.kinds, model.powers(), len(model.starts))
            if span.take([1] + [model.run(rows + end) for end in ends])]


def drawn_number(source, ratios=True):
    """A small number, often 0 or 1."""
    if ratios and source.random() < 0.2:
        return Fraction(source.randint(-3, 3), source.randint(1, 3))
    return Fraction(source.choice([0, 1, 1, 1, 2, -1, -2]))


def drawn_model(source, kinds, names, terms, power=2, ratios=True):
    """A drawn model with so many terms at most in each sum."""
    changes = {}
    for kind, fields in kinds:
        changes[kind] = {}
        for name in names:
            if source.random() < 0.2:
                continue
            found = {}
            for _ in range(source.randint(0, terms)):
                powers = tuple([source.choice([0, 0, 1, 1, power]) for _ in fields])
                found[(source.choice([*names, "1"]), powers)] = drawn_number(source, ratios)
            changes[kind][name] = found
    starts = {name: drawn_number(source, ratios) for name in names}
    told = {name: drawn_number(source, ratios) for name in [*names, "1"]}
    return Model(kinds, starts, changes, told)


def drawn_row(source, kinds, ratios=True):
    """A row of a kind with numbers that are not from a grid alone."""
    kind, fields = source.choice(kinds)
    numbers = [source.randint(-4, 9) for _ in fields]
    if ratios and source.random() < 0.2:
        numbers = [number_of(Fraction(number, source.randint(1, 5))) for number in numbers]
    return (kind, *numbers)


def drawn_rows(source, kinds, most, ratios=True):
    """A list of rows."""
    if not kinds:
        return []
    return [drawn_row(source, kinds, ratios) for _ in range(source.randint(0, most))]


def mixed_model(model, names, factors):
    """The model in other registers, new_k = old_k + factor_k * new_(k-1), from 1 on: it tells the same.

    As old_k = new_k - factor_k * new_(k-1), its sums are those of the model with this put in.
    """
    old = list(model.starts)
    parts = {"1": {"1": Fraction(1)}}
    for k, name in enumerate(old):
        before = names[k - 1] if k else "1"
        parts[name] = {names[k]: Fraction(1), before: -Fraction(factors[k])}

    def put_in(terms):
        total = {}
        for (source, powers), number in terms.items():
            for new, factor in parts[source].items():
                total[(new, powers)] = total.get((new, powers), 0) + number * factor
        return total

    starts, changes = {}, {kind: {} for kind, _ in model.kinds}
    for k, name in enumerate(old):
        before = names[k - 1] if k else "1"
        starts[names[k]] = model.starts[name] + factors[k] * (starts[before] if k else 1)
        for kind, fields in model.kinds:
            total = put_in(model.changes[kind][name])
            earlier = changes[kind][before] if k else {("1", (0,) * len(fields)): Fraction(1)}
            for term, number in earlier.items():
                total[term] = total.get(term, 0) + factors[k] * number
            changes[kind][names[k]] = total
    told = put_in({(source, ()): number for source, number in model.told.items()})
    return Model(model.kinds, starts, changes, {source: number for (source, _), number in told.items()})
