"""The error classes, those of later parts too."""

import unittest

from wetfolds import errors

NAMES = (
    "InvalidStrip InvalidCrease InvalidFolds InvalidPlace InvalidNumber InvalidForm NoFolds InvalidIndex InvalidMove "
    "InvalidStretch InvalidSteps InvalidPrime InvalidLot EmptyLot NotInked InvalidRing InvalidLength InvalidSheet "
    "InvalidSheetRow InvalidSpot InvalidTime InvalidLots InvalidPrints InvalidLog NothingToUndo NothingToRedo"
).split()


class Errors(unittest.TestCase):
    def test_base_class(self):
        self.assertEqual(errors.FoldError.__bases__, (ValueError,))

    def test_subclasses(self):
        found = {name for name, value in vars(errors).items() if isinstance(value, type)}
        self.assertEqual(found, set(NAMES) | {"FoldError", "TooMany", "InvalidText"})
        for name in found - {"FoldError"}:
            self.assertEqual(getattr(errors, name).__bases__, (errors.FoldError,))
            self.assertEqual(getattr(errors, name).__module__, "wetfolds.errors")

    def test_plain_ones_can_be_raised(self):
        for name in NAMES:
            for arguments in ((), ("why",)):
                with self.assertRaises(errors.FoldError):
                    raise getattr(errors, name)(*arguments)

    def test_attributes(self):
        for number in (0, 12, 10000):
            self.assertEqual(errors.TooMany(number).limit, number)
            self.assertEqual(errors.InvalidText(number).at, number)
        self.assertIsInstance(str(errors.TooMany(3)), str)
        self.assertIsInstance(str(errors.InvalidText(3)), str)


if __name__ == "__main__":
    unittest.main()
