"""The errors: where they stand, and what they keep."""

import unittest

from howmanyeach import errors
from howmanyeach.manys import Many

BASES = {
    "EachError": ValueError,
    "MissingError": LookupError,
    "StateError": RuntimeError,
    "LimitError": ArithmeticError,
}

# Each class with the names of its parameters.
CLASSES = {
    "EachError": {
        "InvalidName": ["value"], "InvalidCount": ["value"], "InvalidNumber": ["value"],
        "InvalidMany": ["value"], "InvalidRatio": ["value"], "InvalidKinds": ["position"],
        "InvalidLink": ["value"], "InvalidEnd": ["value"], "InvalidModel": ["value"],
        "InvalidTotal": ["value"], "InvalidPair": ["value"], "InvalidRow": ["value"],
        "InvalidPairs": ["link", "position"], "InvalidDatabase": ["value"], "InvalidWay": ["value"],
        "InvalidSizes": ["value"], "InvalidTold": ["value"], "InvalidText": ["line"],
        "InvalidClaim": ["value"], "InvalidCommand": ["value"], "EmptyBy": ["paper"],
    },
    "MissingError": {
        "UnknownKind": ["value"], "UnknownLink": ["value"], "UnknownRow": ["value"], "UnknownThing": ["value"],
    },
    "StateError": {
        "Apart": ["one", "other"], "Taken": ["value"], "Empty": ["kind", "paper"], "NotLet": ["link", "line"],
        "Lacking": ["obstacle"], "NothingToUndo": [], "CommandFailed": ["position"],
    },
    "LimitError": {"TooMany": ["what", "limit"]},
}

VALUES = [0, 3, -1, True, None, "", "rows", b"x", [], [1, [2]], (), (1, None), {}, {"a": [1]}, object(), Many(1, 6),
          10 ** 64, ValueError("x")]


def each_class():
    for base, below in CLASSES.items():
        for name, parameters in below.items():
            yield base, getattr(errors, name), parameters


class WhereTheyStand(unittest.TestCase):
    def test_all_are_told_here(self):
        told = [*BASES, *[name for below in CLASSES.values() for name in below]]
        defined = [name for name, worth in vars(errors).items() if isinstance(worth, type)]
        self.assertEqual(sorted(defined), sorted(told))
        self.assertEqual(len(told), 37)

    def test_bases_stand_under_errors_of_python(self):
        for name, base in BASES.items():
            self.assertEqual(getattr(errors, name).__bases__, (base,))

    def test_each_stands_directly_under_its_base(self):
        for base, cls, _ in each_class():
            self.assertEqual(cls.__bases__, (getattr(errors, base),))

    def test_none_stands_under_another_one(self):
        for base, cls, _ in each_class():
            under = [other.__name__ for other in vars(errors).values()
                     if isinstance(other, type) and issubclass(cls, other)]
            self.assertEqual(sorted(under), sorted([cls.__name__, base]))
            for python in BASES.values():
                self.assertEqual(issubclass(cls, python), python is BASES[base])

    def test_they_are_caught_by_their_bases(self):
        for base, cls, parameters in each_class():
            for catching in (cls, getattr(errors, base), BASES[base]):
                with self.assertRaises(catching):
                    raise cls(*parameters)


class WhatTheyKeep(unittest.TestCase):
    def test_by_position(self):
        for _, cls, parameters in each_class():
            for value in VALUES:
                given = [value, *VALUES][:len(parameters)]
                made = cls(*given)
                for name, worth in zip(parameters, given):
                    self.assertIs(getattr(made, name), worth)

    def test_by_name(self):
        for _, cls, parameters in each_class():
            for value in VALUES:
                given = dict(zip(parameters, [value, "second"]))
                for order in (list(given), list(given)[::-1]):
                    made = cls(**{name: given[name] for name in order})
                    self.assertEqual(vars(made), given)

    def test_both_values_are_their_own(self):
        for _, cls, parameters in each_class():
            if len(parameters) == 2:
                made = cls("one", "two")
                self.assertEqual([getattr(made, name) for name in parameters], ["one", "two"])

    def test_two_objects_share_nothing(self):
        for _, cls, parameters in each_class():
            first = cls(*[[1] for _ in parameters])
            second = cls(*[[2] for _ in parameters])
            for name in parameters:
                getattr(second, name).append(3)
                self.assertEqual(getattr(first, name), [1])
                self.assertEqual(getattr(second, name), [2, 3])

    def test_each_needs_all_its_values(self):
        for _, cls, parameters in each_class():
            if parameters:
                self.assertRaises(TypeError, cls)
                self.assertRaises(TypeError, cls, *parameters[1:])
                self.assertRaises(TypeError, cls, *parameters, "more")

    def test_without_parameters(self):
        for name in [*BASES, "NothingToUndo"]:
            made = getattr(errors, name)()
            self.assertEqual(vars(made), {})
            with self.assertRaises(getattr(errors, name)):
                raise made

    def test_one_is_raised_from_another_one(self):
        paper = ([("l", "near")], ("l", "far"))
        with self.assertRaises(errors.Empty) as caught:
            raise errors.Empty("a", paper) from errors.EmptyBy(paper)
        self.assertEqual(caught.exception.__cause__.paper, caught.exception.paper)


if __name__ == "__main__":
    unittest.main()
