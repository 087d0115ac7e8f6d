"""The error classes of the interface, each with its base class and its attributes by position."""

import unittest

from onecopy import errors

LOT_ERRORS = ["ShortLot", "NotShort", "NoRoom"]

OTHERS = {
    "NoPage": ["page"], "InvalidPointer": ["index"], "InvalidStanding": ["page"], "NoLine": ["page"],
    "HasRing": ["page"], "TooFewLines": ["page"], "TooMany": ["count"], "NoIndex": ["index"],
    "PageTaken": ["page"], "StillPointed": ["page"], "PointerTaken": ["holder", "target"],
    "NoPointer": ["holder", "target"], "Stopped": ["writes"], "InvalidAllowance": ["allowed"],
    "NoCopy": ["address"], "NoEntry": ["entry"], "NoDay": ["day"], "NoPath": ["index"],
    "Unreachable": ["page"], "NotKeepable": ["page"], "CopiesDiffer": ["left", "right"],
    "NoTable": ["table"], "InvalidTree": ["table"], "InvalidDivision": ["table"], "Overfull": ["table"],
    "NoKey": ["key"], "NotHeld": ["day"], "NoStart": ["index"], "BadCommand": ["word"],
    "NothingToUndo": [], "NothingToRedo": [],
}


class ErrorsTest(unittest.TestCase):
    def test_bases(self):
        self.assertEqual(errors.OnecopyError.__bases__, (ValueError,))
        self.assertEqual(errors.LotError.__bases__, (errors.OnecopyError,))
        for name in LOT_ERRORS:
            self.assertEqual(getattr(errors, name).__bases__, (errors.LotError,), name)
        for name in OTHERS:
            self.assertEqual(getattr(errors, name).__bases__, (errors.OnecopyError,), name)

    def test_no_other_classes(self):
        names = [name for name, thing in vars(errors).items() if isinstance(thing, type)]
        self.assertEqual(sorted(names), sorted(["OnecopyError", "LotError", *LOT_ERRORS, *OTHERS]))

    def test_attributes_by_position(self):
        for name, attributes in OTHERS.items():
            values = [7 + at for at in range(len(attributes))]
            error = getattr(errors, name)(*values)
            self.assertEqual([getattr(error, attribute) for attribute in attributes], values, name)

    def test_number_of_attributes(self):
        for name, attributes in OTHERS.items():
            if attributes:
                with self.assertRaises(TypeError, msg=name):
                    getattr(errors, name)(*range(len(attributes) + 1))
                with self.assertRaises(TypeError, msg=name):
                    getattr(errors, name)(*range(len(attributes) - 1))

    def test_none_as_attribute(self):
        self.assertIsNone(errors.InvalidStanding(None).page)
        self.assertIsNone(errors.InvalidTree(None).table)

    def test_lot(self):
        for name in ["LotError", *LOT_ERRORS]:
            lot = [1, 4]
            error = getattr(errors, name)(lot)
            lot.append(5)
            self.assertEqual(error.lot, [1, 4], name)
            self.assertNotIn("5", str(error), name)

    def test_caught_as_base(self):
        for error in [errors.ShortLot([0]), errors.NoPage(3), errors.NothingToRedo()]:
            for base in [errors.OnecopyError, ValueError]:
                with self.assertRaises(base):
                    raise error


if __name__ == "__main__":
    unittest.main()
