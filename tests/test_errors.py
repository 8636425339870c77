"""Promise [4]: the error classes."""

import inspect
import itertools
import unittest

from lotmarks import errors
from lotmarks.errors import LotError
from tests.things import any_objects

ATTRIBUTES = {
    "BadWeb": "index", "UnknownCell": "cell", "BadProgram": "index", "BadNumber": "number", "BadRules": "cell",
    "BadWorth": "cell", "BadName": "name", "Held": "name", "NotHeld": "name", "BadDeed": "deed", "Taken": "name",
    "Used": "cell", "NoDeed": None, "BadTable": None, "Ringed": "ring", "TooFew": "number", "NotSweep": None,
    "BadMarks": None, "MarkRing": "arrows", "NoSuch": "number", "Unlike": None, "BadCells": None, "BadActs": "index",
    "NoLot": "index", "BadPiece": None, "BadArrow": "index", "BadWave": None, "BadText": "line",
}
WITH = {name: attribute for name, attribute in ATTRIBUTES.items() if attribute is not None}
WITHOUT = [name for name, attribute in ATTRIBUTES.items() if attribute is None]


def error_class(name):
    return getattr(errors, name)


class TestErrorClasses(unittest.TestCase):
    def test_just_these_stand_in_the_file(self):
        found = {name for name, thing in vars(errors).items() if inspect.isclass(thing)}
        self.assertEqual(found, set(ATTRIBUTES) | {"LotError"})

    def test_the_first_class_is_directly_under_value_error(self):
        self.assertEqual(LotError.__bases__, (ValueError,))

    def test_all_others_are_directly_under_it(self):
        for name in ATTRIBUTES:
            self.assertEqual(error_class(name).__bases__, (LotError,), name)

    def test_each_has_its_own_name_and_file(self):
        for name in list(ATTRIBUTES) + ["LotError"]:
            self.assertEqual(error_class(name).__name__, name)
            self.assertEqual(error_class(name).__module__, "lotmarks.errors")

    def test_none_is_another_one(self):
        for one, other in itertools.permutations(ATTRIBUTES, 2):
            self.assertFalse(issubclass(error_class(one), error_class(other)), (one, other))


class TestWithoutAttributes(unittest.TestCase):
    def test_made_without_arguments(self):
        for name in WITHOUT + ["LotError"]:
            error = error_class(name)()
            self.assertIsInstance(error, LotError)
            self.assertIsInstance(error, ValueError)
            self.assertEqual(vars(error), {}, name)

    def test_raised_and_caught(self):
        for name in WITHOUT + ["LotError"]:
            for caught in (error_class(name), LotError, ValueError):
                with self.assertRaises(caught):
                    raise error_class(name)()


class TestWithAttributes(unittest.TestCase):
    def test_by_position(self):
        for name, attribute in WITH.items():
            for thing in any_objects():
                error = error_class(name)(thing)
                self.assertIs(getattr(error, attribute), thing, name)
                self.assertEqual(list(vars(error)), [attribute])

    def test_by_name(self):
        for name, attribute in WITH.items():
            for thing in any_objects():
                error = error_class(name)(**{attribute: thing})
                self.assertIs(getattr(error, attribute), thing, name)

    def test_made_with_just_one(self):
        for name, attribute in WITH.items():
            with self.assertRaises(TypeError):
                error_class(name)()
            with self.assertRaises(TypeError):
                error_class(name)(1, 2)
            with self.assertRaises(TypeError):
                error_class(name)(**{attribute + "s": 1})

    def test_raised_and_caught(self):
        for name, attribute in WITH.items():
            thing = [name]
            for caught in (error_class(name), LotError, ValueError):
                with self.assertRaises(caught) as held:
                    raise error_class(name)(thing)
                self.assertIs(getattr(held.exception, attribute), thing)

    def test_other_errors_are_let_through(self):
        for one, other in itertools.permutations(WITH, 2):
            with self.assertRaises(error_class(one)):
                try:
                    raise error_class(one)("a")
                except error_class(other):
                    self.fail((one, other))

    def test_what_is_kept_is_no_copy(self):
        for name, attribute in WITH.items():
            thing = ["a"]
            error = error_class(name)(thing)
            thing.append({"b": []})
            self.assertIs(getattr(error, attribute), thing)
            self.assertEqual(getattr(error, attribute), ["a", {"b": []}])

    def test_several_at_once(self):
        made = [(name, [name, k], k) for name in WITH for k in range(3)]
        held = [error_class(name)(thing) for name, thing, _ in made]
        for (name, thing, k), error in zip(made, held):
            self.assertIs(getattr(error, WITH[name]), thing)
            self.assertEqual(getattr(error, WITH[name]), [name, k])

    def test_an_attribute_of_one_does_not_show_in_another(self):
        one, other = errors.BadNumber(1), errors.BadNumber(number=2)
        one.number = 3
        self.assertEqual((one.number, other.number), (3, 2))


if __name__ == "__main__":
    unittest.main()
