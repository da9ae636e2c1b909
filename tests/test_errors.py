"""The interface's errors."""

import copy
import unittest

from mixplay import errors

PLAIN = ("NoNumber", "NoTable", "NoStart", "NoOrder", "NotTwo", "NoPlan")
KEEPING = ("NoChoice", "NoMixing")


def one_of_each():
    made = [getattr(errors, name)("words") for name in PLAIN]
    return made + [errors.NoChoice(1, 4), errors.NoMixing(2)]


class Errors(unittest.TestCase):
    def test_any_refusal_is_a_value_error(self):
        self.assertEqual(errors.PlayError.__bases__, (ValueError,))

    def test_each_stands_straight_under_play_error(self):
        for name in PLAIN + KEEPING:
            with self.subTest(name):
                self.assertEqual(getattr(errors, name).__bases__, (errors.PlayError,))

    def test_each_is_taken_as_any_refusal_and_as_none_of_the_others(self):
        kinds = [getattr(errors, name) for name in PLAIN + KEEPING]
        for error, kind in zip(one_of_each(), kinds):
            with self.subTest(kind.__name__):
                self.assertIsInstance(error, errors.PlayError)
                self.assertIsInstance(error, ValueError)
                self.assertEqual([other for other in kinds if isinstance(error, other)], [kind])

    def test_a_refusal_is_made_without_words_too(self):
        for name in PLAIN + ("PlayError",):
            with self.subTest(name):
                with self.assertRaises(errors.PlayError):
                    raise getattr(errors, name)()

    def test_no_choice_keeps_hand_and_choice(self):
        error = errors.NoChoice(1, -4)
        self.assertEqual((error.hand, error.choice), (1, -4))

    def test_no_choice_keeps_a_choice_of_very_many_figures(self):
        error = errors.NoChoice(0, 10 ** 9000)
        self.assertEqual((error.hand, error.choice), (0, 10 ** 9000))

    def test_no_mixing_keeps_the_hand(self):
        self.assertEqual(errors.NoMixing(2).hand, 2)

    def test_a_copy_keeps_the_same(self):
        choice = copy.copy(errors.NoChoice(1, 4))
        self.assertEqual((choice.hand, choice.choice), (1, 4))
        self.assertEqual(copy.copy(errors.NoMixing(2)).hand, 2)


if __name__ == "__main__":
    unittest.main()
