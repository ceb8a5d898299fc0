"""lostplaces.words: [1.1] to [1.4]."""

import math
import unittest

from lostplaces.words import (
    all_words, check_letters, check_number, check_word, choose_of, contrary_word, is_whole, is_word,
    letter_lost, letter_put, power_of, turned_word, word_of_text, word_text,
)
from tests.helper import NO_NUMBERS, NO_SEQUENCES, caught, every_word, every_word_up_to


class Numbers(unittest.TestCase):
    """[1.1] and [0.1]."""

    def test_whole(self):
        self.assertIs(is_whole(5), True)
        self.assertIs(is_whole(-10 ** 30), True)
        for low, high, wanted in ((5, 5, True), (6, None, False), (None, 4, False), (5, None, True),
                                  (None, 5, True), (0, 9, True), (0, 4, False), (6, 9, False)):
            self.assertIs(is_whole(5, low, high), wanted)
        self.assertIs(is_whole(0, low=0, high=0), True)
        self.assertIs(is_whole(0, low=1), False)
        self.assertIs(is_whole(0, high=-1), False)

    def test_no_whole(self):
        for thing in NO_NUMBERS:
            self.assertIs(is_whole(thing), False)
            self.assertIs(is_whole(thing, 0, 1), False)

    def test_check_number(self):
        for number in (-2, 0, 3):
            self.assertEqual(check_number(number, -2, 3), number)
        for number in (-3, 4) + NO_NUMBERS:
            self.assertEqual(caught(check_number, number, -2, 3), ("BadNumber",))

    def test_check_letters(self):
        for letters in (2, 3, 4):
            self.assertEqual(check_letters(letters), letters)
        for letters in (0, 1, 5, -2) + NO_NUMBERS:
            self.assertEqual(caught(check_letters, letters), ("BadLetters",))

    def test_power(self):
        for base in (-3, -1, 0, 1, 2, 10):
            for exponent in (0, 1, 2, 5, 64, 65, 200):
                self.assertEqual(power_of(base, exponent), base ** exponent)

    def test_choose(self):
        for many in range(12):
            for taken in range(many + 1):
                self.assertEqual(choose_of(many, taken), math.comb(many, taken))
        self.assertEqual(choose_of(60, 30), 118264581564861424)
        for many, taken in ((3, 4), (3, -1), (-1, 0), (-1, -1), (-3, 2), (-3, -4), (0, 1)):
            self.assertEqual(choose_of(many, taken), 0)
        self.assertEqual(choose_of(0, 0), 1)


class Words(unittest.TestCase):
    """[1.2]."""

    def test_good_words(self):
        self.assertEqual(check_word(2, []), ())
        self.assertEqual(check_word(2, [0, 1]), (0, 1))
        self.assertEqual(check_word(1, (0, 0)), (0, 0))
        self.assertEqual(check_word(4, (3, 2, 1, 0)), (3, 2, 1, 0))
        self.assertEqual(check_word(2, [0] * 24), (0,) * 24)
        self.assertEqual(check_word(2, [0] * 3, 3), (0,) * 3)
        self.assertEqual(check_word(2, [1] * 200, most=200), (1,) * 200)

    def test_no_sequence_or_too_long(self):
        for thing in NO_SEQUENCES + ([0] * 25, (9,) * 25):
            self.assertEqual(caught(check_word, 2, thing), ("BadWord", -1))
        self.assertEqual(caught(check_word, 2, [0] * 4, 3), ("BadWord", -1))

    def test_first_bad_letter(self):
        self.assertEqual(caught(check_word, 2, [0, 1, 2, 9]), ("BadWord", 2))
        self.assertEqual(caught(check_word, 1, [0, 1]), ("BadWord", 1))
        self.assertEqual(caught(check_word, 4, [4]), ("BadWord", 0))
        for bad in (-1, 2) + NO_NUMBERS:
            self.assertEqual(caught(check_word, 2, [0, bad]), ("BadWord", 1))

    def test_the_list_stays(self):
        word = [0, 1, 1]
        kept = check_word(2, word)
        word[0] = 1
        self.assertEqual(kept, (0, 1, 1))


class Texts(unittest.TestCase):
    """[1.3]."""

    def test_there_and_back(self):
        self.assertEqual(word_text([0, 1, 1, 0]), "0110")
        self.assertEqual(word_text(()), "")
        self.assertEqual(word_of_text(2, ""), ())
        for word in every_word_up_to(4, 3):
            self.assertEqual(word_of_text(4, word_text(word)), word)
        self.assertEqual(word_of_text(3, "2" * 24), (2,) * 24)

    def test_text_of_no_word(self):
        self.assertEqual(caught(word_text, [0, 4]), ("BadWord", 1))
        self.assertEqual(caught(word_text, [0, True]), ("BadWord", 1))
        self.assertEqual(caught(word_text, "01"), ("BadWord", -1))
        self.assertEqual(caught(word_text, [0] * 25), ("BadWord", -1))

    def test_no_text(self):
        for thing in (None, 1, (0, 1), b"01", True):
            self.assertEqual(caught(word_of_text, 2, thing), ("BadText", 0))
        self.assertEqual(caught(word_of_text, 2, "012"), ("BadText", 2))
        self.assertEqual(caught(word_of_text, 3, "0123"), ("BadText", 3))
        self.assertEqual(caught(word_of_text, 4, "01 "), ("BadText", 2))
        self.assertEqual(caught(word_of_text, 4, "-1"), ("BadText", 0))
        self.assertEqual(caught(word_of_text, 2, "0\u0661"), ("BadText", 1))
        self.assertEqual(caught(word_of_text, 2, "0" * 25), ("BadText", 24))
        self.assertEqual(caught(word_of_text, 2, "0" * 24 + "x"), ("BadText", 24))
        self.assertEqual(caught(word_of_text, 2, "0" * 23 + "xx"), ("BadText", 23))

    def test_letters_come_first(self):
        self.assertEqual(caught(word_of_text, 5, None), ("BadLetters",))
        self.assertEqual(caught(word_of_text, True, "01"), ("BadLetters",))


class Changes(unittest.TestCase):
    """[1.4]."""

    def test_lost(self):
        self.assertEqual(letter_lost([0, 1, 2], 1), (1, 2))
        self.assertEqual(letter_lost((0, 1, 2), 3), (0, 1))
        for word in every_word_up_to(2, 4):
            for at in range(len(word)):
                self.assertEqual(letter_lost(word, at + 1), word[:at] + word[at + 1:])

    def test_put(self):
        self.assertEqual(letter_put([0, 1], 1, 3), (3, 0, 1))
        self.assertEqual(letter_put([0, 1], 3, 2), (0, 1, 2))
        self.assertEqual(letter_put([3, 1], 2, 2), (3, 2, 1))
        self.assertEqual(letter_lost([3, 1], 2), (3,))
        self.assertEqual(letter_put([], 1, 0), (0,))
        self.assertEqual(letter_put([0] * 24, 25, 1), (0,) * 24 + (1,))
        for word in every_word_up_to(2, 3):
            for at in range(len(word) + 1):
                self.assertEqual(letter_lost(letter_put(word, at + 1, 2), at + 1), word)

    def test_errors_of_lost_and_put(self):
        for place in (0, 3, -1) + NO_NUMBERS:
            self.assertEqual(caught(letter_lost, (0, 1), place), ("BadNumber",))
        for place in (0, 4, -1) + NO_NUMBERS:
            self.assertEqual(caught(letter_put, (0, 1), place, 9), ("BadNumber",))
            self.assertEqual(caught(letter_put, (0, 1), place, 0), ("BadNumber",))
        for letter in (-1, 4) + NO_NUMBERS:
            self.assertEqual(caught(letter_put, (0, 1), 1, letter), ("BadNumber",))
        self.assertEqual(caught(letter_lost, (), 1), ("BadNumber",))
        self.assertEqual(caught(letter_lost, (0, 4), 9), ("BadWord", 1))
        self.assertEqual(caught(letter_put, (0, 4), 9, 9), ("BadWord", 1))
        self.assertEqual(caught(letter_lost, [0] * 25, 1), ("BadWord", -1))

    def test_turned_and_contrary(self):
        self.assertEqual(turned_word([0, 1, 3]), (3, 1, 0))
        self.assertEqual(turned_word(()), ())
        self.assertEqual(contrary_word([0, 1, 1]), (1, 0, 0))
        self.assertEqual(turned_word([3] * 24), (3,) * 24)
        self.assertEqual(contrary_word(()), ())
        for word in every_word(2, 4):
            self.assertEqual(turned_word(turned_word(word)), word)
            self.assertEqual(contrary_word(contrary_word(word)), word)

    def test_errors_of_turned_and_contrary(self):
        self.assertEqual(caught(turned_word, (0, 4)), ("BadWord", 1))
        self.assertEqual(caught(turned_word, "01"), ("BadWord", -1))
        self.assertEqual(caught(contrary_word, (0, 1, 2)), ("BadWord", 2))
        self.assertEqual(caught(contrary_word, (False,)), ("BadWord", 0))
        self.assertEqual(caught(contrary_word, [0] * 25), ("BadWord", -1))

    def test_the_lists_stay(self):
        word = [0, 1, 1]
        for call in (lambda: letter_lost(word, 1), lambda: letter_put(word, 1, 1),
                     lambda: turned_word(word), lambda: contrary_word(word)):
            self.assertIsInstance(call(), tuple)
            self.assertEqual(word, [0, 1, 1])


class AllWords(unittest.TestCase):
    """The helpers of the other modules."""

    def test_all_words(self):
        for letters in (2, 3, 4):
            for length in range(5):
                self.assertEqual(all_words(letters, length), every_word(letters, length))

    def test_is_word(self):
        self.assertIs(is_word(3, 2, [2, 0]), True)
        self.assertIs(is_word(3, 0, ()), True)
        for thing in NO_SEQUENCES + ((0,), (0, 0, 0), (0, 3), (-1, 0), (0, True)):
            self.assertIs(is_word(3, 2, thing), False)


if __name__ == "__main__":
    unittest.main()
