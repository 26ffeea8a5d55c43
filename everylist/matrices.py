"""Squares of numbers, told by their rows: what rows of a list make of vectors."""

from everylist.bundles import at_point
from everylist.vectors import Space, dot, unit


def applied(matrix, vector):
    """Returns what a matrix makes of a vector."""
    return [dot(numbers, vector) for numbers in matrix]


def multiplied(one, other):
    """Returns the product of two matrices: what it makes of a vector is what one makes of what the other one makes."""
    columns = columns_of(other)
    return [applied(columns, numbers) for numbers in one]


def columns_of(matrix):
    """Returns the list of the columns of a matrix."""
    return [[numbers[place] for numbers in matrix] for place in range(len(matrix))]


def times_one(size, number):
    """Returns the matrix that makes of a vector this vector times a number."""
    return [[number * one for one in unit(size, place)] for place in range(size)]


def row_matrix(machine, row):
    """Returns the matrix of what a row makes of the vectors of a machine, times the scale of its kind."""
    size = len(machine.begins)
    found = []
    for place in range(size):
        found.append(at_point(machine.moved(row[0], unit(size, place)), row[1:], size))
    return columns_of(found)


def step_matrices(machine, kind):
    """Returns matrices of which, times numbers, what any row of a kind makes of vectors is a sum: as few as can be."""
    size = len(machine.begins)
    space = Space(size * size)
    found = []
    for triples in machine.moves[kind].values():
        flat = [0] * (size * size)
        for target, source, number in triples:
            flat[target * size + source] += number
        if space.widen(flat):
            found.append([flat[place * size:place * size + size] for place in range(size)])
    return found
