import unittest

from leastforge.errors import ForgeError, NoName, NoRow, NoRule, NoStep, NoText, NoThing, NoWorth

REFUSALS = [NoText, NoName, NoWorth, NoRule, NoThing, NoStep, NoRow]


class Errors(unittest.TestCase):
    def test_forge_error_stands_under_value_error(self):
        self.assertTrue(issubclass(ForgeError, ValueError))
        self.assertEqual(ForgeError.__bases__, (ValueError,))

    def test_each_refusal_stands_right_under_forge_error(self):
        for refusal in REFUSALS:
            self.assertEqual(refusal.__bases__, (ForgeError,), refusal)

    def test_none_stands_under_another(self):
        for one in REFUSALS:
            for other in REFUSALS:
                self.assertIs(issubclass(one, other), one is other, (one, other))

    def test_each_has_its_own_name(self):
        self.assertEqual(
            [refusal.__name__ for refusal in REFUSALS],
            ["NoText", "NoName", "NoWorth", "NoRule", "NoThing", "NoStep", "NoRow"],
        )


if __name__ == "__main__":
    unittest.main()
