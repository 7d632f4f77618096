"""[0.6]: the errors."""

import unittest

from backstair import errors
from backstair.errors import BackError, BadText, Clash, Refused

NAMES = ["BadMachine", "BadMark", "BadText", "Clash", "BadPast", "BadProgram", "BadStore", "TooLong", "Refused",
         "BadNet", "BadBits", "BadTable", "NotClean", "NotStraight", "BadParts", "BadBlocks"]


class Errors(unittest.TestCase):
    def test_all_stand_in_the_file_itself(self):
        for name in ["BackError"] + NAMES:
            self.assertIsInstance(getattr(errors, name), type, name)
            self.assertEqual(getattr(errors, name).__module__, "backstair.errors")
            self.assertEqual(getattr(errors, name).__name__, name)

    def test_each_is_a_subclass_of_the_base(self):
        self.assertTrue(issubclass(BackError, ValueError))
        for name in NAMES:
            self.assertTrue(issubclass(getattr(errors, name), BackError), name)

    def test_no_other_one_is_a_subclass_of_another(self):
        for one in NAMES:
            self.assertFalse(issubclass(BackError, getattr(errors, one)))
            for two in NAMES:
                if one != two:
                    self.assertFalse(issubclass(getattr(errors, one), getattr(errors, two)), (one, two))

    def test_no_further_builtin_error_is_a_base(self):
        for name in NAMES:
            bases = getattr(errors, name).__mro__
            self.assertEqual(bases[1:], (BackError,) + ValueError.__mro__, name)

    def test_attributes(self):
        text = BadText(7)
        self.assertEqual(text.line, 7)
        clash = Clash(2, 5)
        self.assertEqual((clash.first, clash.second), (2, 5))
        refused = Refused(3, (1, 2))
        self.assertEqual((refused.steps, refused.store), (3, (1, 2)))

    def test_each_can_be_caught_as_the_base(self):
        made = [BadText(1), Clash(0, 1), Refused(0, ())]
        for error in made:
            with self.assertRaises(BackError):
                raise error
