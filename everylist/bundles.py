"""Bundles: polynomials in the same fields side by side.

A bundle is a dict from tuples of powers, one for each field, to vectors: at each place of the vectors stands the
number with which these powers go into one of the polynomials. No vector in it is 0.
"""

from everylist.vectors import cut, is_zero, plus_times


def total_of(pairs):
    """Returns the bundle that is the sum of pairs of powers and vectors."""
    total = {}
    for powers, vector in pairs:
        total[powers] = plus_times(total[powers], vector, 1) if powers in total else vector
    return without_zeros(total)


def without_zeros(bundle):
    """Returns a bundle without the vectors that are 0."""
    return {powers: vector for powers, vector in bundle.items() if not is_zero(vector)}


def at_point(bundle, point, size):
    """Returns the vector of the values of the polynomials, where the fields have these numbers, in order."""
    total = [0] * size
    for powers, vector in bundle.items():
        factor = 1
        for number, power in zip(point, powers):
            factor = factor * power_of(number, power)
        total = plus_times(total, vector, factor)
    return total


def first_point(bundles, prime=0):
    """Returns the first tuple of integers from 0 on at which one of the polynomials is not 0; None if all are 0.

    A polynomial of power g in a field that is not 0 is not 0 for all numbers from 0 to g in its place. So the first
    number for the first field is the first one that leaves a polynomial that is not 0, and so on. The same holds for
    rests by a prime, if that is not 0, as long as powers are below it.
    """
    left = [bundle for bundle in bundles if len(bundle) > 0]
    if len(left) == 0:
        return None
    point = []
    for _ in range(len(list(left[0])[0])):
        number = 0
        put = _all_put(left, number, prime)
        while len(put) == 0:
            number += 1
            put = _all_put(left, number, prime)
        left = put
        point.append(number)
    return tuple(point)


def power_of(number, power):
    """Returns a number to a power from 0 on."""
    found = 1
    for _ in range(power):
        found = found * number
    return found


def _all_put(bundles, number, prime):
    """Returns the bundles that are left with a number in the place of the first field, those that are 0 left out."""
    found = [_put(bundle, number, prime) for bundle in bundles]
    return [bundle for bundle in found if len(bundle) > 0]


def _put(bundle, number, prime):
    """Returns the bundle, in the other fields, with a number in the place of the first field."""
    zero = [0] * len(list(bundle.values())[0])
    put = total_of([(powers[1:], plus_times(zero, vector, power_of(number, powers[0])))
                    for powers, vector in bundle.items()])
    return without_zeros({powers: cut(vector, prime) for powers, vector in put.items()})
