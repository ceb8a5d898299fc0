"""lostplaces.above: [1.6], [1.9]."""

import unittest

from lostplaces.above import above_count, above_words
from lostplaces.below import below_words
from lostplaces.words import choose_of
from tests.helper import (
    NO_NUMBERS, NO_SEQUENCES, caught, every_word, every_word_up_to, made_of_tuples, plain_above,
    plain_is_below,
)


class AboveWords(unittest.TestCase):
    def test_against_a_plain_search(self):
        for letters, most, put_most in ((2, 5, 4), (3, 3, 3), (4, 2, 2)):
            for word in every_word_up_to(letters, most):
                for put in range(put_most + 1):
                    wanted = tuple(sorted(plain_above(letters, word, put)))
                    self.assertEqual(above_words(letters, word, put), wanted)
                    self.assertEqual(above_count(letters, len(word), put), len(wanted))

    def test_below_and_above_are_one_thing(self):
        for long in every_word(2, 6):
            for short in every_word(2, 4):
                self.assertEqual(long in above_words(2, short, 2), short in below_words(long, 2))
                self.assertEqual(long in above_words(2, short, 2), plain_is_below(short, long))

    def test_edges(self):
        self.assertEqual(above_words(2, [], 0), ((),))
        self.assertEqual(above_words(3, [], 1), ((0,), (1,), (2,)))
        self.assertEqual(above_words(2, [0] * 24, 0), ((0,) * 24,))
        self.assertEqual(len(above_words(2, (0, 1) * 12, 1)), 26)
        self.assertEqual(len(above_words(2, (0, 1) * 12, 2)), 352)
        self.assertEqual(above_words(2, [], 10), tuple(every_word(2, 10)))

    def test_too_many(self):
        self.assertEqual(caught(above_words, 2, [], 11), ("TooMany", 2048))
        self.assertEqual(caught(above_words, 2, (0, 1) * 12, 3), ("TooMany", 3304))
        count = sum(choose_of(48, taken) * 3 ** taken for taken in range(25))
        self.assertEqual(caught(above_words, 4, [0] * 24, 24), ("TooMany", count))
        self.assertEqual(len(above_words(2, [0] * 10, 4)), 1471)
        self.assertEqual(len(above_words(2, [0] * 11, 4)), 1941)
        self.assertEqual(caught(above_words, 2, [0] * 12, 4), ("TooMany", 2517))

    def test_count(self):
        for letters in (2, 3, 4):
            for length, put in ((0, 60), (60, 60), (60, 0), (7, 3)):
                wanted = sum(choose_of(length + put, taken) * (letters - 1) ** taken
                             for taken in range(put + 1))
                self.assertEqual(above_count(letters, length, put), wanted)
        self.assertEqual(above_count(4, 0, 60), 4 ** 60)

    def test_errors(self):
        for bad in (1, 5) + NO_NUMBERS:
            self.assertEqual(caught(above_words, bad, None, None), ("BadLetters",))
            self.assertEqual(caught(above_count, bad, None, None), ("BadLetters",))
        for thing in NO_SEQUENCES + ([0] * 25,):
            self.assertEqual(caught(above_words, 2, thing, None), ("BadWord", -1))
        self.assertEqual(caught(above_words, 2, (0, 2), None), ("BadWord", 1))
        self.assertEqual(caught(above_words, 3, (0, 2, True), 0), ("BadWord", 2))
        for bad in (-1, 25) + NO_NUMBERS:
            self.assertEqual(caught(above_words, 2, [0] * 24, bad), ("BadNumber",))
        for bad in (-1, 61) + NO_NUMBERS:
            self.assertEqual(caught(above_count, 2, bad, 0), ("BadNumber",))
            self.assertEqual(caught(above_count, 2, 0, bad), ("BadNumber",))

    def test_lists_stay_and_tuples_return(self):
        word = [0, 1, 1]
        self.assertTrue(made_of_tuples(above_words(2, word, 2)))
        self.assertEqual(word, [0, 1, 1])


if __name__ == "__main__":
    unittest.main()
