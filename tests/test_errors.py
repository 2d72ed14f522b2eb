"""The refusals."""

import unittest

from trialfield.errors import NoEffect, NoFit, NoRow, NoText, NoThing, TrialError

FIVE = (NoEffect, NoText, NoRow, NoThing, NoFit)


class Errors(unittest.TestCase):
    def test_every_refusal_is_a_trial_error_and_a_value_error(self):
        for error in FIVE + (TrialError,):
            self.assertTrue(issubclass(error, TrialError), error)
            self.assertTrue(issubclass(error, ValueError), error)

    def test_none_of_the_five_stands_under_another(self):
        for error in FIVE:
            for other in FIVE + (TrialError,):
                if error != other:
                    self.assertFalse(issubclass(other, error), (other, error))

    def test_they_are_raised_with_words(self):
        for error in FIVE:
            with self.assertRaises(TrialError) as caught:
                raise error("some words")
            self.assertEqual(str(caught.exception), "some words")


if __name__ == "__main__":
    unittest.main()
