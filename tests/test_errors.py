"""Point 4 and the section of errors: classes, base classes and attributes."""

import unittest

from tests.helpers import WebCase
from webnumbers import errors

BASES = {
    "WebError": ValueError,
    "UnfitWeb": errors.WebError,
    "NoResult": errors.WebError,
    "InvalidWeb": errors.WebError,
    "InvalidRow": errors.WebError,
    "InvalidKind": errors.WebError,
    "InvalidText": errors.WebError,
    "InvalidCode": errors.WebError,
    "InvalidPoly": errors.WebError,
    "InvalidExpression": errors.WebError,
    "InvalidName": errors.WebError,
    "UnknownName": errors.WebError,
    "NameInUse": errors.WebError,
    "Circular": errors.WebError,
    "NothingToUndo": errors.WebError,
    "TooLarge": errors.WebError,
    "HasLoops": errors.UnfitWeb,
    "NotConnected": errors.UnfitWeb,
    "NoOddRing": errors.UnfitWeb,
    "HasOddRing": errors.UnfitWeb,
    "NotTwist": errors.NoResult,
    "NoBound": errors.NoResult,
    "NotDivisible": errors.NoResult,
    "NoRoot": errors.NoResult,
}

VALUES = {
    "InvalidWeb": {"place": -1},
    "InvalidRow": {"place": 3},
    "InvalidKind": {"kind": "cube"},
    "InvalidText": {"line": 2},
    "InvalidCode": {"code": -7},
    "InvalidPoly": {"place": 0},
    "InvalidExpression": {"position": 11},
    "InvalidName": {"name": "2x"},
    "UnknownName": {"name": "x"},
    "NameInUse": {"name": "x", "users": ("y", "z")},
    "Circular": {"name": "x"},
    "TooLarge": {"limit": 64},
    "HasLoops": {"node": 5},
    "NotConnected": {"pieces": 0},
    "NoOddRing": {"node": 4},
    "HasOddRing": {"ring": (0, 1, 2)},
    "NotTwist": {"pair": (1, 0)},
    "NotDivisible": {"monomial": ((0, 2),)},
    "NoRoot": {"degree": 3},
}


class ErrorsTest(WebCase):
    def test_each_class_has_its_base_class(self):
        for name, base in BASES.items():
            self.assertEqual((base,), getattr(errors, name).__bases__, name)

    def test_each_error_keeps_its_attributes(self):
        for name, told in VALUES.items():
            error = getattr(errors, name)(*told.values())
            self.assertEqual(told, vars(error), name)
            self.assertNotEqual("", str(error), name)

    def test_errors_without_attributes(self):
        for name in BASES.keys() - VALUES.keys():
            error = getattr(errors, name)()
            self.assertEqual({}, vars(error), name)

    def test_integers_of_any_length(self):
        # Python refuses to write integers with more than 4300 digits.
        great = 10 ** 5000
        self.assertEqual(great, errors.InvalidCode(great).code)
        self.assertEqual(great, errors.NoRoot(great).degree)
        self.assertEqual(((great, great),), errors.NotDivisible(((great, great),)).monomial)

    def test_all_derive_from_web_error(self):
        for name in BASES:
            self.assertTrue(issubclass(getattr(errors, name), errors.WebError), name)


if __name__ == "__main__":
    unittest.main()
