"""The errors of the interface, and [0.2]: they keep copies of their arguments."""

import copy
import unittest

from foxborders import errors
from foxborders.errors import BadDeed, BadText, FoxError, NothingDone
from tests.values import exact, nested, odd_values


def inner_lists_and_dicts(value):
    if isinstance(value, (list, dict)):
        yield value
    if isinstance(value, (list, tuple)):
        for part in value:
            yield from inner_lists_and_dicts(part)
    if isinstance(value, dict):
        for part in value.values():
            yield from inner_lists_and_dicts(part)


class Errors(unittest.TestCase):

    def test_family(self):
        self.assertEqual([FoxError.__bases__, BadText.__bases__, BadDeed.__bases__, NothingDone.__bases__],
                         [(ValueError,), (FoxError,), (FoxError,), (FoxError,)])
        for error in (BadText(3), BadDeed(), NothingDone()):
            with self.assertRaises(ValueError):
                raise error

    def test_all_stand_in_their_file(self):
        for name in ("FoxError", "BadText", "BadDeed", "NothingDone"):
            self.assertEqual(getattr(errors, name).__module__, "foxborders.errors")

    def test_place(self):
        self.assertEqual(exact(BadText(16).place), "16")
        for value in odd_values():
            error = BadText(value)
            self.assertEqual(exact(error.place), exact(value))
            self.assertIsInstance(str(error), str)

    def test_arguments_as_written(self):
        for call in (lambda: BadText(), lambda: BadText(1, 2), lambda: BadDeed(1), lambda: NothingDone(1)):
            with self.assertRaises(TypeError):
                call()

    def test_deep_places(self):
        deep = nested(150, lambda value: (value, 0), [1])
        self.assertEqual(exact(BadText(deep).place), exact(deep))

    def test_copies(self):
        values = odd_values() + [[1, [2, {"a": [3]}]], ({"k": ([],)}, [()]), {1: [2, {3: {}}], (4, 5): ([[6]],)},
                                 nested(40, lambda value: ({"k": [value]},), [])]
        for value in values:
            before = exact(value)
            kept = BadText(value).place
            self.assertEqual(exact(value), before)
            own = {id(part) for part in inner_lists_and_dicts(value)}
            self.assertFalse(own & {id(part) for part in inner_lists_and_dicts(kept)})

    def test_what_callers_change_stays_their_own(self):
        value = [1, {"a": [2]}, ([3],)]
        error = BadText(value)
        value[1]["a"].append(9)
        value[2][0].append(9)
        value.append(9)
        self.assertEqual(exact(error.place), "[1, {'a': [2]}, ([3],)]")
        other = copy.deepcopy(error.place)
        error.place.append(7)
        self.assertEqual(exact(BadText(other).place), "[1, {'a': [2]}, ([3],)]")
