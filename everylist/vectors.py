"""Vectors: lists of integers, and the sums of some of them, each times a number.

Where vectors only matter up to a factor they are integers, as integers are quicker than ratios. Where a prime is told,
and not 0, all numbers stand for their rests by it.
"""

from math import gcd, lcm

from everylist.ratios import bottom_of, top_of


class Space:
    """All sums of some vectors of so many integers, each times a number; all of it by a prime, if that is not 0.

    The rows are those of the one reduced form: each begins at its pivot, the first place that is not 0, where all other
    rows have 0, and where it has the scale, which is the same for all rows.
    """

    def __init__(self, size, prime=0):
        self._size = size
        self._prime = prime
        self._scale = 1
        self._rows = {}

    def rest(self, vector):
        """Returns what is left of a vector, times the scale, without a sum of the space: 0 exactly if it is in it."""
        left = [self._scale * number for number in vector]
        for pivot, row in self._rows.items():
            factor = vector[pivot]
            if factor != 0:
                left = [number - factor * taken for number, taken in zip(left, row)]
        return cut(left, self._prime)

    def widen(self, vector):
        """Takes a vector into the space, and tells whether it was in none of its sums."""
        rest = self.rest(vector)
        pivot = first_place(rest)
        if pivot is None:
            return False
        head = rest[pivot]
        table = {pivot: [self._scale * number for number in rest]}
        for place, row in self._rows.items():
            factor = row[pivot]
            table[place] = [head * number - factor * taken for number, taken in zip(row, rest)]
        self._keep(table, self._scale * head)
        return True

    def is_full(self):
        """Tells whether all vectors are in the space."""
        return len(self._rows) == self._size

    def scale(self):
        """Returns what each row has at its pivot."""
        return self._scale

    def by_pivots(self):
        """Returns the dict from the pivots, in order, to their rows."""
        return {pivot: list(self._rows[pivot]) for pivot in sorted(list(self._rows))}

    def _keep(self, table, scale):
        """Keeps these rows with this scale, with numbers as small as they can be."""
        if self._prime > 0:
            factor = inverse_by(self._prime, scale)
            self._rows = {pivot: cut(times(row, factor), self._prime) for pivot, row in table.items()}
            return
        divisor = scale
        for row in table.values():
            divisor = gcd(divisor, divisor_of(row))
        self._scale = scale // divisor
        self._rows = {pivot: [number // divisor for number in row] for pivot, row in table.items()}


def inverse(square):
    """Returns the columns of the inverse of a square of integers, times a number, and this number."""
    size = len(square)
    space = Space(2 * size)
    for place, numbers in enumerate(square):
        space.widen([*numbers, *unit(size, place)])
    rows = space.by_pivots()
    return [[rows[pivot][size + place] for pivot in range(size)] for place in range(size)], space.scale()


def inverse_by(prime, number):
    """Returns what gives the rest 1 by a prime, times a number that is no multiple of it."""
    # Of each rest the factor is known that gives it, times the number: those of the prime itself and of the number.
    rest, next_rest = prime, number % prime
    factor, next_factor = 0, 1
    while next_rest > 0:
        times_in = rest // next_rest
        rest, next_rest = next_rest, rest - times_in * next_rest
        factor, next_factor = next_factor, factor - times_in * next_factor
    return factor % prime


def cut(vector, prime):
    """Returns the rests of the numbers by a prime, or the numbers if it is 0."""
    return [number % prime for number in vector] if prime > 0 else vector


def plus_times(one, other, factor):
    """Returns the sum of a vector and another one times a factor."""
    return [number + factor * more for number, more in zip(one, other)]


def times(vector, factor):
    """Returns a vector times a number."""
    return [number * factor for number in vector]


def dot(one, other):
    """Returns the sum of the products of the numbers at the same places."""
    return sum([number * factor for number, factor in zip(one, other)])


def is_zero(vector):
    """Tells whether all numbers of a vector are 0."""
    return first_place(vector) is None


def first_place(vector):
    """Returns the first place whose number is not 0, or None."""
    for place, number in enumerate(vector):
        if number != 0:
            return place
    return None


def unit(size, place):
    """Returns the vector with 1 at a place and 0 elsewhere."""
    return [1 if k == place else 0 for k in range(size)]


def divisor_of(vector):
    """Returns the greatest common divisor of the integers of a vector."""
    divisor = 0
    for number in vector:
        divisor = gcd(divisor, number)
    return divisor


def shortened(vector):
    """Returns a vector of integers without their common divisor."""
    divisor = divisor_of(vector)
    return [number // divisor for number in vector] if divisor > 1 else vector


def common_bottom(numbers):
    """Returns the least integer above 0 that makes all of the numbers integers, as a factor."""
    factor = 1
    for number in numbers:
        factor = lcm(factor, bottom_of(number))
    return factor


def made_whole(numbers, factor):
    """Returns the list of the numbers, times a factor that makes them integers."""
    return [top_of(number) * (factor // bottom_of(number)) for number in numbers]
