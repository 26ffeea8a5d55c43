"""The conventions of the package: what counts as an integer, a name, a list and digits."""

DIGITS = "0123456789"
LETTERS = "abcdefghijklmnopqrstuvwxyz"
LONGEST_NAME = 8


def is_int(thing):
    """Tells whether something is an integer; True and False are none."""
    return isinstance(thing, int) and not isinstance(thing, bool)


def is_list(thing):
    """Tells whether something may be passed where a list or a tuple is told."""
    return isinstance(thing, (list, tuple))


def is_name(thing):
    """Tells whether something is a name, a string of 1 to 8 letters from a to z."""
    if not isinstance(thing, str) or not 1 <= len(thing) <= LONGEST_NAME:
        return False
    return all([letter in LETTERS for letter in thing])


def are_digits(text):
    """Tells whether a text is made of digits from 0 to 9, at least one."""
    return text != "" and all([digit in DIGITS for digit in text])
