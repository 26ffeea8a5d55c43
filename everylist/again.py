"""Blocks of rows again and again, and the rests of what is told by a modulus."""

from math import gcd

from everylist.building import starts_of, table_of
from everylist.bundles import power_of
from everylist.checks import is_int
from everylist.comparing import difference
from everylist.errors import BadRow, NoMany, NoModulus, NoPrime, NotWhole, UnlikeRows
from everylist.machines import first_list, machine_by_prime, told_by
from everylist.matrices import applied, multiplied, times_one
from everylist.ratios import Ratio, plain
from everylist.vectors import Space, common_bottom, cut, divisor_of, dot, is_zero, made_whole, unit

# With each of these, 2 to the power of it less 1 is a prime.
EXPONENTS = (127, 521, 1279, 4423, 11213, 21701, 44497)


def recurrence(loop, block):
    """Returns the shortest list of numbers that tell each number told of a block again and again by those before it."""
    _check_rows_of(loop, block)
    size = len(told_by(loop))
    matrix, factor = _whole_block(loop, block)
    sums = _shortest_sums(_told_again(loop, matrix, 2 * size), size)
    many = len(sums)
    # The numbers told have grown by the factor with each block.
    return [plain(Ratio(number, power_of(factor, many - k))) for k, number in enumerate(sums)]


def far(loop, blocks, modulus):
    """Returns the rest by a modulus of what a whole loop tells of blocks of rows, each many times."""
    if not _is_whole(loop):
        raise NotWhole()
    if modulus < 1:
        raise NoModulus(modulus)
    for block, many in blocks:
        _check_rows_of(loop, block)
        if not all([is_int(number) for row in block for number in row[1:]]):
            raise NotWhole()
        if many < 0:
            raise NoMany(many)
    vector = starts_of(loop)
    for block, many in blocks:
        vector = _moved_again(_rests(_whole_block(loop, block)[0], modulus), many, vector, modulus)
    return dot(told_by(loop), vector) % modulus


def parting_rests(one, other, prime):
    """Returns the first list for which two whole loops tell numbers with unlike rests by a prime, or None."""
    if one.rows != other.rows:
        raise UnlikeRows()
    if not _is_whole(one) or not _is_whole(other):
        raise NotWhole()
    if not _is_prime(prime):
        raise NoPrime(prime)
    return first_list(machine_by_prime([one, other], prime), difference(told_by(one), told_by(other)))


def _check_rows_of(loop, block):
    """Raises BadRow for the first thing in a block that is no row."""
    for index, row in enumerate(block):
        if not loop.rows.is_row(row):
            raise BadRow(index)


def _is_whole(loop):
    """Tells whether all numbers of a loop are integers."""
    polys = [poly for kind in loop.rows.kinds() for parts in table_of(loop, kind) for poly in parts.values()]
    numbers = [number for poly in polys for number in poly.terms().values()]
    return all([is_int(number) for number in [*starts_of(loop), *told_by(loop), *numbers]])


def _is_prime(number):
    if number < 2:
        return False
    divisor = 2
    while divisor * divisor <= number:
        if number % divisor == 0:
            return False
        divisor += 1
    return True


def _row_matrix(loop, row):
    """Returns the matrix of what a row makes of the places of a loop, times a factor, in integers, and the factor."""
    size = len(told_by(loop))
    matrix = []
    for parts in table_of(loop, row[0]):
        matrix.append([parts[place].at(row[1:]) if place in parts else 0 for place in range(size)])
    factor = common_bottom([number for numbers in matrix for number in numbers])
    return [made_whole(numbers, factor) for numbers in matrix], factor


def _whole_block(loop, block):
    """Returns the matrix of what a block makes of the places of a loop, times a factor, in integers, and the factor."""
    size = len(told_by(loop))
    matrix = times_one(size, 1)
    factor = 1
    for row in block:
        step, more = _row_matrix(loop, row)
        matrix = multiplied(step, matrix)
        factor = factor * more
        divisor = factor
        for numbers in matrix:
            divisor = gcd(divisor, divisor_of(numbers))
        matrix = [[number // divisor for number in numbers] for numbers in matrix]
        factor = factor // divisor
    return matrix, factor


def _told_again(loop, matrix, many):
    """Returns what is told of a block 0, 1, 2 .. times, so many numbers, but for one factor and those of the blocks."""
    told = made_whole(told_by(loop), common_bottom(told_by(loop)))
    vector = made_whole(starts_of(loop), common_bottom(starts_of(loop)))
    found = []
    for _ in range(many):
        found.append(dot(told, vector))
        vector = applied(matrix, vector)
    return found


def _shortest_sums(told, size):
    """Returns the shortest list of integers with which each number told is a sum of as many before it.

    Where the numbers told are integers, so are those of this list. By a prime they are found much sooner, if it is
    great enough, which is tried: what is no sum by a prime is none at all, so that no shorter list can do.
    """
    for exponent in EXPONENTS:
        sums = _sums_by((1 << exponent) - 1, told, size)
        if all([dot(sums, told[n:n + len(sums)]) == told[n + len(sums)] for n in range(size)]):
            return sums
    return _sums_by(0, told, size)


def _sums_by(prime, told, size):
    """Returns the shortest list of integers with which each number told is a sum, by a prime, if that is not 0.

    As many numbers in a row as there are places tell whether they are sums of those that begin before them.
    """
    told = cut(told, prime)
    space = Space(2 * size + 1, prime)
    many = 0
    rest = space.rest(_window(told, size, many))
    while not is_zero(rest[:size]):
        space.widen(_window(told, size, many))
        many += 1
        rest = space.rest(_window(told, size, many))
    sums = [-number // rest[size + many] for number in rest[size:size + many]]
    return [_next_to_0(number, prime) for number in sums] if prime > 0 else sums


def _next_to_0(number, prime):
    """Returns the integer next to 0 that has the same rest by a prime."""
    rest = number % prime
    return rest - prime if rest > prime // 2 else rest


def _window(told, size, many):
    """Returns as many of the numbers told as there are places, from one on, and behind them which one that is."""
    return [*told[many:many + size], *unit(size + 1, many)]


def _rests(matrix, modulus):
    """Returns the rests of the numbers of a matrix."""
    return [cut(numbers, modulus) for numbers in matrix]


def _moved_again(matrix, many, vector, modulus):
    """Returns what a block makes of a vector many times, by the squares of its matrix."""
    while many > 0:
        if many % 2 == 1:
            vector = cut(applied(matrix, vector), modulus)
        matrix = _rests(multiplied(matrix, matrix), modulus)
        many = many // 2
    return vector
