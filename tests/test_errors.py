"""The interface, everylist/errors.py."""

import unittest

from everylist import errors
from everylist.errors import ListError

# Every error with the names of its attributes, in the order in which they are passed.
ATTRIBUTES = {
    "BadKind": ["index"],
    "NoKind": ["kind"],
    "BadName": ["name"],
    "BadNumber": ["number"],
    "NoRegister": ["name"],
    "BadSum": ["text"],
    "BadRow": ["index"],
    "NoText": ["text"],
    "NoTerm": ["term"],
    "OtherFields": [],
    "WrongCount": ["count"],
    "UnlikeRows": [],
    "UnlikeFields": [],
    "NoWay": ["kind"],
    "NameInUse": ["name"],
    "NoPlace": ["place"],
    "Alike": [],
    "NoLoop": [],
    "NotWhole": [],
    "NoModulus": ["modulus"],
    "NoMany": ["many"],
    "NoPrime": ["number"],
}


class Unshowable:
    """An object of which no text can be made."""

    def __str__(self):
        raise RuntimeError("no text")

    __repr__ = __str__

    def __eq__(self, other):
        raise RuntimeError("not to be compared")

    __hash__ = None


def any_values():
    loop = []
    loop.append(loop)
    return [
        0, -1, 7, 10 ** 30, 10 ** 5000, True, None, "", "buy", "100%", "{0}", "a\nb",
        [], [1, "a"], (), ("row", 1), {}, {"a": [1]}, {1}, 1.5, b"b", object(), len, ListError, loop, Unshowable(),
    ]


class ErrorsTest(unittest.TestCase):
    def test_there_are_twenty_two(self):
        self.assertEqual(len(ATTRIBUTES), 22)

    def test_the_attributes_are_what_was_passed(self):
        for name, attributes in ATTRIBUTES.items():
            error_class = getattr(errors, name)
            for value in any_values():
                error = error_class(*[value for _ in attributes])
                self.assertEqual(sorted(vars(error)), attributes, name)
                for attribute in attributes:
                    self.assertIs(getattr(error, attribute), value, name)

    def test_a_passed_list_is_kept_as_it_is(self):
        thing = [1, [2]]
        self.assertIs(errors.NoKind(thing).kind, thing)
        self.assertEqual(thing, [1, [2]])

    def test_each_takes_just_its_attributes(self):
        for name, attributes in ATTRIBUTES.items():
            error_class = getattr(errors, name)
            with self.assertRaises(TypeError):
                error_class(*(["a"] * (len(attributes) + 1)))
            if attributes:
                with self.assertRaises(TypeError):
                    error_class()

    def test_each_has_a_message_whatever_was_passed(self):
        for name, attributes in ATTRIBUTES.items():
            for value in any_values():
                message = str(getattr(errors, name)(*[value for _ in attributes]))
                self.assertNotEqual(message, "", name)

    def test_each_is_a_direct_subclass(self):
        for name in ATTRIBUTES:
            error_class = getattr(errors, name)
            self.assertEqual(error_class.__bases__, (ListError,), name)
            self.assertEqual(error_class.__name__, name)
            self.assertEqual(error_class.__module__, "everylist.errors")
        self.assertEqual(ListError.__bases__, (ValueError,))

    def test_each_is_raised_as_itself_alone(self):
        for name, attributes in ATTRIBUTES.items():
            error_class = getattr(errors, name)
            for base in (error_class, ListError, ValueError):
                with self.assertRaises(base):
                    raise error_class(*[1 for _ in attributes])
            error = error_class(*[1 for _ in attributes])
            for other in ATTRIBUTES:
                self.assertEqual(isinstance(error, getattr(errors, other)), other == name, (name, other))

    def test_the_base_is_none_of_them(self):
        for name in ATTRIBUTES:
            self.assertNotIsInstance(ListError(), getattr(errors, name))


if __name__ == "__main__":
    unittest.main()
