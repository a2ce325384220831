import copy
import pickle
import unittest

from givenout import errors
from tests.helpers import VALUES

NUMBERS = ("BadText", "BadRun", "Telling", "TooMany")
VALUED = (
    "BadStand", "NoMove", "BadReader", "BadMemory", "BadMove", "BadRows", "BadPool", "BadAsk", "BadAsks", "BadCase",
    "BadView", "BadCount", "BadSecrets", "BadNeeds", "BadOffers", "BadChanges", "BadChange", "BadOthers", "BadWays",
    "BadDeed", "BadNumber", "BadGuards", "BadRules", "BadLine")
ALONE = ("NothingToUndo", "NothingToRedo", "NoTrial")
KEPT = [(name, "number") for name in NUMBERS] + [(name, "value") for name in VALUED] + [("Unsure", "answers")]


class ErrorsTest(unittest.TestCase):

    def test_all_of_the_list_and_no_other(self):
        told = [name for name, thing in vars(errors).items() if isinstance(thing, type)]
        self.assertEqual(sorted(told), sorted([name for name, _ in KEPT] + list(ALONE) + ["GivenError"]))

    def test_given_error_is_directly_below_value_error(self):
        self.assertEqual(errors.GivenError.__bases__, (ValueError,))

    def test_each_is_directly_below_given_error(self):
        for name in [name for name, _ in KEPT] + list(ALONE):
            error = getattr(errors, name)
            with self.subTest(name):
                self.assertEqual(error.__bases__, (errors.GivenError,))
                self.assertEqual(error.__name__, name)
                self.assertEqual(error.__module__, "givenout.errors")
                self.assertTrue(issubclass(error, ValueError))

    def test_each_keeps_any_value_under_its_name(self):
        for name, kept in KEPT:
            for value in VALUES + ("seven", ("a", "b"), [[]]):
                with self.subTest(name, value=value):
                    by_place, by_name = getattr(errors, name)(value), getattr(errors, name)(**{kept: value})
                    self.assertIs(getattr(by_place, kept), value)
                    self.assertIs(getattr(by_name, kept), value)
                    self.assertIsInstance(str(by_place), str)
                    self.assertIsInstance(by_name, errors.GivenError)

    def test_each_needs_its_argument(self):
        for name, kept in KEPT:
            with self.subTest(name):
                self.assertRaises(TypeError, getattr(errors, name))
                self.assertRaises(TypeError, getattr(errors, name), **{kept + "s": 1})

    def test_three_have_none(self):
        for name in ALONE:
            with self.subTest(name):
                self.assertEqual(vars(getattr(errors, name)()), {})
                with self.assertRaises(errors.GivenError):
                    raise getattr(errors, name)()

    def test_each_can_be_caught_as_each_that_is_above_it(self):
        for name, kept in KEPT:
            for above in (getattr(errors, name), errors.GivenError, ValueError):
                with self.subTest(name, above=above):
                    with self.assertRaises(above) as caught:
                        raise getattr(errors, name)([name])
                    self.assertEqual(getattr(caught.exception, kept), [name])

    def test_each_can_be_copied(self):
        for name, kept in KEPT:
            error = getattr(errors, name)((1, "a"))
            for other in (copy.copy(error), pickle.loads(pickle.dumps(error))):
                self.assertEqual(getattr(other, kept), (1, "a"))
        for name in ALONE:
            self.assertIsInstance(copy.copy(getattr(errors, name)()), getattr(errors, name))
