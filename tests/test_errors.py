import unittest

from beatmakers.errors import BadCount, BadNote, BadVoter, BadWeb, BeatError, TooMany

REFUSALS = (BadCount, BadVoter, BadWeb, TooMany, BadNote)


class ErrorsTest(unittest.TestCase):
    def test_beat_error_is_a_value_error(self):
        self.assertTrue(issubclass(BeatError, ValueError))
        self.assertIsNot(BeatError, ValueError)

    def test_each_refusal_is_a_beat_error(self):
        for refusal in REFUSALS:
            with self.subTest(refusal=refusal.__name__):
                self.assertTrue(issubclass(refusal, BeatError))
                self.assertIsNot(refusal, BeatError)

    def test_no_refusal_is_under_another(self):
        for refusal in REFUSALS:
            above = [other for other in REFUSALS if issubclass(refusal, other)]
            self.assertEqual(above, [refusal])

    def test_each_refusal_can_be_raised_and_taken(self):
        for refusal in REFUSALS:
            with self.assertRaises(BeatError) as taken:
                raise refusal("words")
            self.assertIs(type(taken.exception), refusal)


if __name__ == "__main__":
    unittest.main()
