"""The errors of the package.

Their messages are plain words without the values that they are created with: an error can be created from any
values, and not every value can be shown.
"""


class ListError(ValueError):
    """The base of all errors of the package."""


class BadKind(ListError):
    """The thing at this index is not a kind with its fields, or is one that stood before."""

    def __init__(self, index):
        super().__init__("this is not a new kind with its fields")
        self.index = index


class NoKind(ListError):
    """This is no kind of the rows."""

    def __init__(self, kind):
        super().__init__("there is no such kind of rows")
        self.kind = kind


class BadName(ListError):
    """This is not a name, or one that cannot be taken here."""

    def __init__(self, name):
        super().__init__("this is not a name that can be taken here")
        self.name = name


class BadNumber(ListError):
    """This is no number."""

    def __init__(self, number):
        super().__init__("this is no number")
        self.number = number


class NoRegister(ListError):
    """This is no register of the loop."""

    def __init__(self, name):
        super().__init__("there is no such register")
        self.name = name


class BadSum(ListError):
    """This is not the text of a sum of the registers and fields."""

    def __init__(self, text):
        super().__init__("this is not a sum of these registers and fields")
        self.text = text


class BadRow(ListError):
    """The thing at this index is no row."""

    def __init__(self, index):
        super().__init__("this is no row")
        self.index = index


class NoText(ListError):
    """This is not the text of what was to be read."""

    def __init__(self, text):
        super().__init__("this is not the text of such a thing")
        self.text = text


class NoTerm(ListError):
    """This is not a tuple of powers, one for each field."""

    def __init__(self, term):
        super().__init__("this is not a tuple of powers, one for each field")
        self.term = term


class OtherFields(ListError):
    """A polynomial is over other fields."""

    def __init__(self):
        super().__init__("a polynomial is over other fields")


class WrongCount(ListError):
    """There are not as many things as fields, or no field has this number."""

    def __init__(self, count):
        super().__init__("the fields are not as many")
        self.count = count


class UnlikeRows(ListError):
    """The loops are not over equal rows."""

    def __init__(self):
        super().__init__("the loops are not over equal rows")


class UnlikeFields(ListError):
    """One of the kinds has more fields than the other one."""

    def __init__(self):
        super().__init__("one of the kinds has more fields")


class NoWay(ListError):
    """There is no way for this kind of rows."""

    def __init__(self, kind):
        super().__init__("there is no way for this kind of rows")
        self.kind = kind


class NameInUse(ListError):
    """Both loops have a register of this name."""

    def __init__(self, name):
        super().__init__("both loops have a register of this name")
        self.name = name


class NoPlace(ListError):
    """This is no place of the loop."""

    def __init__(self, place):
        super().__init__("there is no such place in the loop")
        self.place = place


class Alike(ListError):
    """The loops are alike already."""

    def __init__(self):
        super().__init__("the loops are alike already")


class NoLoop(ListError):
    """There is no such loop."""

    def __init__(self):
        super().__init__("there is no such loop")


class NotWhole(ListError):
    """Not all numbers are integers."""

    def __init__(self):
        super().__init__("not all numbers are integers")


class NoModulus(ListError):
    """This is below 1 and no modulus."""

    def __init__(self, modulus):
        super().__init__("a modulus is at least 1")
        self.modulus = modulus


class NoMany(ListError):
    """A block cannot stand so many times in a list."""

    def __init__(self, many):
        super().__init__("a block cannot be told less than 0 times")
        self.many = many


class NoPrime(ListError):
    """This number is no prime."""

    def __init__(self, number):
        super().__init__("this number is no prime")
        self.number = number
