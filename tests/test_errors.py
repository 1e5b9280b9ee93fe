import copy
import inspect
import unittest

from commondays import errors
from commondays.errors import DaysError

PLAIN = [
    "InvalidTable", "InvalidItem", "SameItem", "NotAHistory", "InvalidDay", "InvalidNumber", "InvalidForks",
    "InvalidTold", "InvalidPair", "InvalidPairs", "OtherNumber", "InvalidItems", "InvalidParts", "NoCommon",
    "InvalidBound", "NothingToUndo", "NotAnObject", "InvalidText",
]

WITH_ATTRIBUTES = {
    "Contradiction": ["index"],
    "NotExact": ["index"],
    "NotPossible": ["least", "greatest"],
    "TooLarge": ["limit"],
}


def all_classes():
    return {name: getattr(errors, name) for name in [*PLAIN, *WITH_ATTRIBUTES]}


class ErrorClasses(unittest.TestCase):
    def test_plain_errors_are_made_without_arguments(self):
        for name in PLAIN:
            with self.subTest(name):
                made = getattr(errors, name)()
                self.assertIsInstance(made, DaysError)
                self.assertIsInstance(made, ValueError)

    def test_attributes_by_position(self):
        for values in [(0, 1), (7, 10 ** 40), (3, None)]:
            for name, attributes in WITH_ATTRIBUTES.items():
                with self.subTest(name, values=values):
                    made = getattr(errors, name)(*values[:len(attributes)])
                    self.assertIsInstance(made, DaysError)
                    self.assertIsInstance(made, ValueError)
                    self.assertEqual([getattr(made, word) for word in attributes], list(values[:len(attributes)]))

    def test_attributes_by_name(self):
        self.assertEqual(errors.Contradiction(index=4).index, 4)
        self.assertEqual(errors.NotExact(index=5).index, 5)
        self.assertEqual(errors.TooLarge(limit=40).limit, 40)
        made = errors.NotPossible(greatest=9, least=2)
        self.assertEqual((made.least, made.greatest), (2, 9))

    def test_arguments_are_asked_for(self):
        for name in WITH_ATTRIBUTES:
            with self.subTest(name), self.assertRaises(TypeError):
                getattr(errors, name)()

    def test_no_class_but_the_base_is_above_another_one(self):
        for name, kind in all_classes().items():
            with self.subTest(name):
                above = [other for other in kind.__mro__[1:] if issubclass(other, DaysError)]
                self.assertEqual(above, [DaysError])

    def test_base(self):
        self.assertTrue(issubclass(DaysError, ValueError))
        self.assertIsInstance(DaysError(), ValueError)

    def test_all_are_defined_in_the_file(self):
        found = {name for name, kind in inspect.getmembers(errors, inspect.isclass)}
        self.assertEqual(found, {"DaysError", *PLAIN, *WITH_ATTRIBUTES})
        for name, kind in inspect.getmembers(errors, inspect.isclass):
            self.assertEqual((kind.__module__, kind.__name__), ("commondays.errors", name))

    def test_raised_and_caught(self):
        for name, kind in all_classes().items():
            with self.subTest(name), self.assertRaises(DaysError):
                raise kind(*[3] * len(WITH_ATTRIBUTES.get(name, [])))

    def test_a_copy_has_the_attributes(self):
        made = copy.copy(errors.NotPossible(2, None))
        self.assertEqual((made.least, made.greatest), (2, None))


if __name__ == "__main__":
    unittest.main()
