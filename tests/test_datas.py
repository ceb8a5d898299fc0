"""lostplaces.datas: [10.1] to [10.3]."""

import unittest

from lostplaces.datas import data_of, data_word, free_places
from lostplaces.sums import SumBook
from lostplaces.wrongs import WrongBook
from tests.helper import (
    NO_NUMBERS, NO_SEQUENCES, caught, chance_words, every_word, made_of_tuples, plain_sum,
)

POWERS = (1, 2, 4, 8, 16, 32, 64, 128)
LENGTHS = (1, 2, 3, 4, 5, 6, 7, 8, 9, 12, 15, 16, 17, 31, 32, 33, 63, 64, 65, 100, 127, 128, 129,
           199, 200)


def modulus_of(length, wrong):
    """The modulus of the place sums."""
    return 2 * length if wrong else length + 1


def plain_free(length, wrong):
    """The free places by their definition."""
    fixed = set(POWERS) | ({length} if wrong else set())
    return [place for place in range(1, length + 1) if place not in fixed]


def plain_word(length, rest, bits, wrong):
    """The one word of this rest among those with these bits that the rule of [10.2] tells."""
    word = dict.fromkeys(range(1, length + 1), 0)
    word.update(zip(plain_free(length, wrong), bits))
    lacking = (rest - sum(place for place in word if word[place])) % modulus_of(length, wrong)
    powers = [place for place in POWERS if place <= length]
    if wrong and length not in powers and lacking > sum(powers):
        word[length] = 1
        lacking -= length
    for place in reversed(powers):
        word[place] = lacking // place
        lacking %= place
    return tuple(word[place] for place in range(1, length + 1))


class Places(unittest.TestCase):
    """[10.1]."""

    def test_all_lengths(self):
        for length in range(1, 201):
            figures = len(f"{length:b}")
            places = free_places(length)
            self.assertEqual(places, tuple(plain_free(length, False)))
            self.assertEqual(len(places), length - figures)
            self.assertEqual(free_places(length, wrong=False), places)
            less = free_places(length, wrong=True)
            self.assertEqual(less, tuple(plain_free(length, True)))
            self.assertEqual(len(less), len(places) - (0 if length in POWERS else 1))
            self.assertTrue(made_of_tuples((places, less)))

    def test_none_free(self):
        self.assertEqual([free_places(length) for length in (1, 2, 3)], [(), (), (3,)])
        self.assertEqual([free_places(length, wrong=True) for length in (1, 2, 3)], [(), (), ()])
        self.assertEqual(free_places(4), (3,))
        self.assertEqual(free_places(5, wrong=True), (3,))

    def test_errors(self):
        for bad in (0, -1, 201) + NO_NUMBERS:
            self.assertEqual(caught(free_places, bad), ("BadNumber",))
            self.assertEqual(caught(free_places, bad, wrong=True), ("BadNumber",))


class Words(unittest.TestCase):
    """[10.2], [10.3]."""

    def check(self, length, rest, bits, wrong):
        """A word holds its bits and has its rest."""
        word = data_word(length, rest, list(bits), wrong=wrong)
        self.assertEqual(word, plain_word(length, rest, bits, wrong))
        self.assertEqual(len(word), length)
        self.assertTrue(set(word) <= {0, 1})
        self.assertTrue(made_of_tuples(word))
        self.assertEqual(plain_sum(word) % modulus_of(length, wrong), rest)
        self.assertEqual(data_of(list(word), wrong=wrong), tuple(bits))
        return word

    def test_all_short_words(self):
        for length in range(1, 12):
            for wrong in (False, True):
                free = len(plain_free(length, wrong))
                rows = every_word(2, free) if free < 6 else chance_words(length, 2, free, 20)
                for rest in range(modulus_of(length, wrong)):
                    words = {self.check(length, rest, bits, wrong) for bits in rows}
                    book = WrongBook(length, rest) if wrong else SumBook(length, length + 1, rest)
                    self.assertEqual(len(words), len(set(rows)))
                    self.assertTrue(all(book.has(word) for word in words))

    def test_all_lengths(self):
        for length in LENGTHS:
            for wrong in (False, True):
                modulus = modulus_of(length, wrong)
                free = len(plain_free(length, wrong))
                rests = range(modulus) if length < 70 else range(0, modulus, 7)
                for rest in rests:
                    for bits in chance_words(rest + 1, 2, free, 1) + [(0,) * free, (1,) * free]:
                        self.check(length, rest, bits, wrong)
                self.check(length, modulus - 1, (0,) * free, wrong)

    def test_members_of_books(self):
        for length in (1, 5, 33, 60):
            bits = chance_words(length, 2, len(plain_free(length, True)), 1)[0]
            for rest in range(0, 2 * length, 3):
                word = data_word(length, rest, bits, wrong=True)
                self.assertTrue(WrongBook(length, rest).has(word))
        bits = chance_words(5, 2, 200 - 8, 1)[0]
        self.assertTrue(SumBook(200, 201, 77).has(data_word(200, 77, bits)))

    def test_example(self):
        self.assertEqual(data_word(4, 0, [1]), (0, 1, 1, 0))
        self.assertEqual(data_word(4, 5, [1], wrong=True), (0, 1, 1, 0))
        self.assertEqual(data_word(5, 9, [0], wrong=True), (0, 0, 0, 1, 1))
        self.assertEqual(data_of([0, 1, 1, 0]), (1,))

    def test_word_errors_in_order(self):
        for bad in (0, -1, 201) + NO_NUMBERS:
            self.assertEqual(caught(data_word, bad, None, None), ("BadNumber",))
        for bad in (-1, 6) + NO_NUMBERS:
            self.assertEqual(caught(data_word, 5, bad, None), ("BadRest",))
        for bad in (-1, 10) + NO_NUMBERS:
            self.assertEqual(caught(data_word, 5, bad, None, wrong=True), ("BadRest",))
        self.assertIsNone(caught(data_word, 5, 9, [1], wrong=True))
        for thing in NO_SEQUENCES + ([], [1], [1, 0, 1]):
            self.assertEqual(caught(data_word, 5, 5, thing), ("BadBits", -1))
        self.assertEqual(caught(data_word, 5, 5, [1, 0], wrong=True), ("BadBits", -1))
        for bad in (-1, 2) + NO_NUMBERS:
            self.assertEqual(caught(data_word, 7, 0, [1, bad, bad, 0]), ("BadBits", 1))

    def test_reading_errors(self):
        for thing in NO_SEQUENCES + ([], (), [0] * 201):
            for wrong in (False, True):
                self.assertEqual(caught(data_of, thing, wrong=wrong), ("BadWord", -1))
        for bad in (-1, 2) + NO_NUMBERS:
            self.assertEqual(caught(data_of, [0, bad, bad]), ("BadWord", 1))

    def test_reading_asks_for_no_rest(self):
        for length in range(1, 9):
            for word in every_word(2, length):
                for wrong in (False, True):
                    wanted = tuple(word[place - 1] for place in plain_free(length, wrong))
                    self.assertEqual(data_of(word, wrong=wrong), wanted)
        self.assertEqual(len(data_of([1] * 200)), 192)


if __name__ == "__main__":
    unittest.main()
