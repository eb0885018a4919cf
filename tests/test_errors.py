"""[14] The errors."""

import unittest

from unbrokenruns import errors
from tests.models import catch, odd_values

ARGUMENTS = {
    "InvalidProgram": ["index", "why"], "InvalidPlace": ["value"], "InvalidNumber": ["value"],
    "InvalidStretch": ["path", "begin", "end"], "InvalidThreads": ["index"], "InvalidThread": ["value"],
    "NotPossible": ["event"], "InvalidPosition": ["value"], "InvalidPass": ["value"], "Dependent": ["position"],
    "Broken": ["ring"], "InvalidState": ["value"], "UnknownName": ["name"], "OtherStretch": [],
    "OverlappingStretches": ["one", "other"], "TooMany": ["what", "count"], "NotBalanced": ["index"],
    "NameTaken": ["name"], "UnknownEdit": ["word"], "LastKind": ["kind"], "SameName": ["name"],
    "NotWeak": ["number"], "NotAccess": ["number"], "NothingToUndo": [], "BadText": ["line"],
    "UnknownKind": ["kind"],
}
FOREIGN = [KeyError, IndexError, ZeroDivisionError, TypeError, ArithmeticError, OSError, AttributeError,
           RuntimeError, UnicodeError]


class ErrorsTest(unittest.TestCase):
    def test_all_classes_stand_in_the_module(self):
        for name in [*ARGUMENTS, "RunsError"]:
            with self.subTest(name):
                self.assertEqual(getattr(errors, name).__module__, "unbrokenruns.errors")

    def test_base_classes(self):
        self.assertEqual(errors.RunsError.__bases__, (ValueError,))
        self.assertEqual(errors.UnknownKind.__bases__, (LookupError,))
        for name in ARGUMENTS:
            if name != "UnknownKind":
                with self.subTest(name):
                    self.assertEqual(getattr(errors, name).__bases__, (errors.RunsError,))

    def test_no_other_bases(self):
        for name in ARGUMENTS:
            found = getattr(errors, name)
            others = [getattr(errors, other) for other in ARGUMENTS if other != name]
            right, wrong = (LookupError, ValueError) if name == "UnknownKind" else (ValueError, LookupError)
            with self.subTest(name):
                self.assertTrue(issubclass(found, right))
                self.assertFalse(issubclass(found, wrong))
                self.assertEqual(issubclass(found, errors.RunsError), name != "UnknownKind")
                self.assertEqual([x for x in others + FOREIGN if issubclass(found, x)], [])

    def test_arguments_by_position_are_stored_as_they_are(self):
        for name, words in ARGUMENTS.items():
            for value in odd_values():
                values = [[value, at] for at in range(len(words))]
                error = getattr(errors, name)(*values)
                with self.subTest(name, value=value):
                    self.assertEqual([getattr(error, word) is x for word, x in zip(words, values)],
                                     [True] * len(words))
                single = getattr(errors, name)(*[value] * len(words))
                self.assertTrue(all([getattr(single, word) is value for word in words]))

    def test_arguments_by_name_in_another_order(self):
        for name, words in ARGUMENTS.items():
            values = {word: [word] for word in reversed(words)}
            error = getattr(errors, name)(**values)
            with self.subTest(name):
                for word in words:
                    self.assertIs(getattr(error, word), values[word])

    def test_stored_lists_are_not_changed(self):
        ring = [3, 1, 2]
        error = errors.Broken(ring)
        self.assertIs(error.ring, ring)
        self.assertEqual(ring, [3, 1, 2])

    def test_number_of_arguments(self):
        for name, words in ARGUMENTS.items():
            with self.subTest(name):
                self.assertIsInstance(catch(getattr(errors, name), *range(len(words) + 1)), TypeError)
                self.assertIsInstance(catch(getattr(errors, name), wrong=1), TypeError)
                if words:
                    self.assertIsInstance(catch(getattr(errors, name), *range(len(words) - 1)), TypeError)

    def test_raised_and_caught(self):
        for name, words in ARGUMENTS.items():
            with self.subTest(name):
                with self.assertRaises(getattr(errors, name)) as caught:
                    raise getattr(errors, name)(*words)
                self.assertEqual([getattr(caught.exception, word) for word in words], words)
