import unittest

from leftproducts import errors
from leftproducts.errors import LeftError

PLAIN = ("BadChange BadChoice BadDeed BadEnd BadLengths BadLive BadName BadPrime BadRow BadRules BadTable "
         "BadWord BadWords NotFrame NotLeast NotOdd NotUndone NothingLeft").split()
WITH = {"BadFrame": "part", "BadLead": "part", "BadMany": "part", "BadNumber": "part", "BadText": "at",
        "NoWatch": "name", "TooMany": "most"}


class ErrorsTest(unittest.TestCase):
    def test_there_are_25_directly_below_left_error(self):
        found = [thing for thing in vars(errors).values() if isinstance(thing, type) and thing is not LeftError]
        self.assertEqual(sorted(thing.__name__ for thing in found), sorted(PLAIN + list(WITH)))
        self.assertEqual(len(found), 25)
        for thing in found:
            self.assertEqual(thing.__bases__, (LeftError,))
        self.assertEqual(LeftError.__bases__, (ValueError,))

    def test_plain_ones_are_made_of_a_message(self):
        for name in PLAIN:
            self.assertEqual(str(getattr(errors, name)("told")), "told")
        self.assertEqual(str(LeftError("told")), "told")

    def test_the_others_keep_any_value(self):
        for name, attribute in WITH.items():
            for value in (None, True, 0, -3, "x", 1.5, [1], {"a": 2}, (1, 2), object(), 10 ** 6000, ValueError):
                error = getattr(errors, name)(value)
                self.assertIs(getattr(error, attribute), value)
                self.assertIsInstance(str(error), str)
                named = getattr(errors, name)(**{attribute: value})
                self.assertIs(getattr(named, attribute), value)

    def test_the_message_tells_plain_values(self):
        self.assertIn("heights", str(errors.BadFrame("heights")))
        self.assertIn("32", str(errors.TooMany(32)))


if __name__ == "__main__":
    unittest.main()
