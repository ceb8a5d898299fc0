"""lostplaces.rises: [5.7]."""

import unittest

from lostplaces.rises import rise_sum, rise_word, rises_of
from tests.helper import (
    NO_SEQUENCES, caught, chance_words, every_word, every_word_up_to, made_of_tuples, plain_below,
    plain_is_below,
)


class Rises(unittest.TestCase):
    def test_against_the_definition(self):
        words = every_word_up_to(2, 6) + every_word_up_to(4, 4) + chance_words(1, 4, 61, 5)
        for word in words:
            places = [place for place in range(1, len(word)) if word[place] >= word[place - 1]]
            self.assertEqual(rises_of(list(word)), tuple(places))
            self.assertEqual(rise_sum(list(word)), sum(places))
            wanted = tuple(int(place in places) for place in range(1, len(word)))
            self.assertEqual(rise_word(list(word)), wanted)

    def test_values(self):
        self.assertEqual(rises_of([0, 0, 3, 1, 2]), (1, 2, 4))
        self.assertEqual(rise_word([0, 0, 3, 1, 2]), (1, 1, 0, 1))
        self.assertEqual(rise_sum([0, 0, 3, 1, 2]), 7)
        for word in ([], [3]):
            self.assertEqual((rises_of(word), rise_sum(word), rise_word(word)), ((), 0, ()))
        self.assertEqual(rise_sum([2] * 61), 60 * 61 // 2)
        self.assertEqual(rise_word([1, 0] * 30), (0, 1) * 29 + (0,))
        self.assertTrue(made_of_tuples((rises_of([0, 1]), rise_word([0, 1]))))

    def test_words_below_have_rise_words_below(self):
        for word in every_word_up_to(3, 5):
            if len(word) > 1:
                for short in plain_below(word, 1):
                    self.assertTrue(plain_is_below(rise_word(short), rise_word(word)))

    def test_unlike_words_above_by_one_letter_have_unlike_rise_words(self):
        for word in every_word(3, 4):
            for letter in range(3):
                longer = {word[:at] + (letter,) + word[at:] for at in range(5)}
                self.assertEqual(len({rise_word(long) for long in longer}), len(longer))

    def test_errors(self):
        for call in (rises_of, rise_word, rise_sum):
            for thing in NO_SEQUENCES + ([0] * 62,):
                self.assertEqual(caught(call, thing), ("BadWord", -1))
            self.assertEqual(caught(call, [0, 4]), ("BadWord", 1))
            self.assertEqual(caught(call, [3] * 60 + [True]), ("BadWord", 60))


if __name__ == "__main__":
    unittest.main()
