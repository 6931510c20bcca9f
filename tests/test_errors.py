import unittest

from hearsaybook.errors import BadDoings, HearsayError, NoLine, NoText


class Errors(unittest.TestCase):
    def test_hearsay_error_stands_straight_under_value_error(self):
        self.assertEqual(HearsayError.__bases__, (ValueError,))

    def test_refusals_stand_straight_under_hearsay_error(self):
        for refusal in (NoText, NoLine, BadDoings):
            self.assertEqual(refusal.__bases__, (HearsayError,), refusal)

    def test_the_refusals_are_three(self):
        self.assertEqual(len({NoText, NoLine, BadDoings}), 3)

    def test_each_is_taken_by_its_name_and_by_those_above(self):
        for error in (NoText("a"), NoLine("a"), BadDoings(0)):
            for name in (type(error), HearsayError, ValueError):
                with self.assertRaises(name):
                    raise error

    def test_none_is_taken_by_the_name_of_another(self):
        self.assertNotIsInstance(NoText("a"), (NoLine, BadDoings))
        self.assertNotIsInstance(NoLine("a"), (NoText, BadDoings))
        self.assertNotIsInstance(BadDoings(0), (NoText, NoLine))

    def test_those_made_with_a_text_tell_it(self):
        for made in (HearsayError, NoText, NoLine):
            self.assertEqual(str(made("no such line")), "no such line")
            self.assertEqual(str(made("")), "")

    def test_bad_doings_has_its_turn(self):
        for turn in (0, 1, 7, 399, 10 ** 30):
            self.assertEqual(BadDoings(turn).turn, turn)
            self.assertIs(type(BadDoings(turn).turn), int)
            self.assertEqual(BadDoings(turn=turn).turn, turn)

    def test_two_bad_doings_keep_their_own_turns(self):
        one, other = BadDoings(1), BadDoings(2)
        self.assertEqual((one.turn, other.turn), (1, 2))

    def test_bad_doings_has_words(self):
        self.assertIsInstance(str(BadDoings(3)), str)


if __name__ == "__main__":
    unittest.main()
