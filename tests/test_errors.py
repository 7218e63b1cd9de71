"""Point 1 and the interface of damworks.errors."""

import unittest

from damworks import errors

PLAIN = """BadDam BadPlan BadDemands BadInflows BadFlag BadCapacity BadMonth BadNumbers BadLoss BadSize BadHouse
BadPrices BadHolder BadChances BadPond BadLevel BadMonths BadRound BadRelease BadShare Unsettled BadGate BadSalts
BadSalt BadPair BadStart BadFlow TooLittle NothingToUndo BadStore BadPieces NoPlan NotText""".split()

FIELDS = {
    "BadWorths": "index", "BadRiver": "index", "BadRiverWorths": "index", "BadFutures": "index", "BadUsers": "index",
    "InvalidText": "place", "TooMany": "most",
}


class ErrorsTest(unittest.TestCase):
    def test_base_is_a_value_error(self):
        self.assertEqual(errors.DamError.__bases__, (ValueError,))

    def test_all_are_direct_subclasses(self):
        for name in PLAIN + list(FIELDS):
            with self.subTest(name):
                self.assertEqual(getattr(errors, name).__bases__, (errors.DamError,))

    def test_there_are_no_others(self):
        names = {name for name, value in vars(errors).items() if isinstance(value, type)}
        self.assertEqual(names, set(PLAIN) | set(FIELDS) | {"DamError"})

    def test_fields_are_set_when_the_error_is_created(self):
        for name, field in FIELDS.items():
            for value in (0, 7, None):
                with self.subTest(name, value=value):
                    error = getattr(errors, name)(value)
                    self.assertEqual(vars(error), {field: value})
                    self.assertIn(str(value), str(error))

    def test_the_others_have_no_fields(self):
        for name in PLAIN:
            with self.subTest(name):
                self.assertEqual(vars(getattr(errors, name)("words")), {})


if __name__ == "__main__":
    unittest.main()
