"""lostplaces.sums: [3.1] to [3.6]."""

import unittest

from lostplaces.judged import NearPair
from lostplaces.sums import (
    SumBook, lifted_word, lowered_word, modulus_clash, place_sum, sum_members,
)
from tests.helper import (
    NO_NUMBERS, NO_SEQUENCES, caught, chance_words, every_word, every_word_up_to, made_of_tuples,
    plain_above, plain_below, plain_is_below, plain_sum,
)


class PlaceSums(unittest.TestCase):
    """[3.1]."""

    def test_sums(self):
        self.assertEqual(place_sum([]), 0)
        self.assertEqual(place_sum([1, 0, 1, 1]), 8)
        self.assertEqual(place_sum([1] * 201), 201 * 202 // 2)
        for word in every_word_up_to(2, 7):
            self.assertEqual(place_sum(word), plain_sum(word))

    def test_errors(self):
        for thing in NO_SEQUENCES + ([0] * 202,):
            self.assertEqual(caught(place_sum, thing), ("BadWord", -1))
        self.assertEqual(caught(place_sum, [0, 1, 2]), ("BadWord", 2))
        self.assertEqual(caught(place_sum, [True]), ("BadWord", 0))


class Lifted(unittest.TestCase):
    """[3.2] and [3.3]."""

    def test_each_amount_once(self):
        for word in every_word_up_to(2, 7) + chance_words(1, 2, 30, 5) + [(0,) * 200, (1,) * 200]:
            above = plain_above(2, word, 1)
            self.assertEqual(len(above), len(word) + 2)
            lifted = {lifted_word(word, amount) for amount in range(len(word) + 2)}
            self.assertEqual(lifted, above)
            for amount in range(len(word) + 2):
                self.assertEqual(plain_sum(lifted_word(word, amount)), plain_sum(word) + amount)

    def test_lowered(self):
        for word in every_word_up_to(2, 7) + chance_words(2, 2, 30, 5) + [(0,) * 201, (1,) * 201]:
            found = {}
            for amount in range(len(word) + 1):
                lower = lowered_word(word, amount)
                if lower is not None:
                    self.assertEqual(plain_sum(lower), plain_sum(word) - amount)
                    found[amount] = lower
            below = plain_below(word, 1) if word else set()
            self.assertEqual(set(found.values()), below)
            self.assertEqual(len(found), len(below))

    def test_there_and_back(self):
        for word in every_word_up_to(2, 6) + [(0, 1) * 100]:
            for amount in range(len(word) + 2):
                self.assertEqual(lowered_word(lifted_word(word, amount), amount), word)

    def test_examples_and_edges(self):
        self.assertEqual(lifted_word([0, 0, 1], 2), (1, 0, 0, 1))
        self.assertEqual(lifted_word((), 0), (0,))
        self.assertEqual(lifted_word((), 1), (1,))
        self.assertIsNone(lowered_word((), 0))
        self.assertEqual(lowered_word([1], 1), ())
        self.assertIsNone(lowered_word([1], 0))
        self.assertEqual(len(lifted_word([1] * 200, 201)), 201)
        self.assertTrue(made_of_tuples((lifted_word([1, 0], 2), lowered_word([1, 0], 0))))

    def test_errors(self):
        for thing in NO_SEQUENCES + ([0] * 201,):
            self.assertEqual(caught(lifted_word, thing, None), ("BadWord", -1))
        for thing in NO_SEQUENCES + ([0] * 202,):
            self.assertEqual(caught(lowered_word, thing, None), ("BadWord", -1))
        for call in (lifted_word, lowered_word):
            self.assertEqual(caught(call, [0, 2], 9), ("BadWord", 1))
            self.assertEqual(caught(call, [0, True], 0), ("BadWord", 1))
        for bad in (-1, 4) + NO_NUMBERS:
            self.assertEqual(caught(lifted_word, [0, 1], bad), ("BadAmount",))
            self.assertEqual(caught(lowered_word, [0, 1, 1], bad), ("BadAmount",))
        self.assertIsNone(caught(lifted_word, [0, 1], 3))
        self.assertIsNone(caught(lowered_word, [0, 1, 1], 3))
        self.assertEqual(caught(lowered_word, (), 1), ("BadAmount",))


class SumBooks(unittest.TestCase):
    """[3.4] and [3.5]."""

    def test_attributes(self):
        book = SumBook(4, 7, 6)
        self.assertEqual((book.length, book.modulus, book.rest), (4, 7, 6))
        self.assertIs(book.is_full, False)
        self.assertIs(SumBook(4, 5, 0).is_full, True)
        self.assertIs(SumBook(0, 1, 0).is_full, True)
        self.assertIs(SumBook(200, 201, 200).is_full, True)
        self.assertEqual(SumBook(200, 10 ** 6, 10 ** 6 - 1).modulus, 10 ** 6)

    def test_equal(self):
        book = SumBook(4, 7, 6)
        self.assertTrue(book == SumBook(length=4, modulus=7, rest=6))
        for parts in ((5, 7, 6), (4, 8, 6), (4, 7, 5)):
            self.assertTrue(book != SumBook(*parts))
        self.assertFalse(book == (4, 7, 6))

    def test_errors_in_order(self):
        for bad in (-1, 201) + NO_NUMBERS:
            self.assertEqual(caught(SumBook, bad, None, None), ("BadNumber",))
        for bad in (4, 0, -1, 10 ** 6 + 1) + NO_NUMBERS:
            self.assertEqual(caught(SumBook, 4, bad, None), ("BadModulus",))
        for bad in (-1, 7) + NO_NUMBERS:
            self.assertEqual(caught(SumBook, 4, 7, bad), ("BadRest",))

    def test_has_and_members(self):
        for length in range(6):
            for modulus in range(length + 1, length + 4):
                for rest in range(modulus):
                    book = SumBook(length, modulus, rest)
                    wanted = [word for word in every_word(2, length)
                              if plain_sum(word) % modulus == rest]
                    self.assertEqual(list(sum_members(book)), wanted)
                    for word in every_word(2, length):
                        self.assertIs(book.has(list(word)), word in wanted)

    def test_has_other_lengths_and_errors(self):
        book = SumBook(4, 5, 0)
        self.assertIs(book.has([]), False)
        self.assertIs(book.has([0] * 5), False)
        self.assertIs(book.has([0] * 200), False)
        self.assertIs(SumBook(200, 201, 0).has([0] * 200), True)
        self.assertIs(SumBook(200, 201, 1).has([0] * 200), False)
        for thing in NO_SEQUENCES + ([0] * 201,):
            self.assertEqual(caught(book.has, thing), ("BadWord", -1))
        self.assertEqual(caught(book.has, [0, 0, 0, 2]), ("BadWord", 3))
        self.assertEqual(caught(book.has, [0, 0, 0, 0, True]), ("BadWord", 4))

    def test_members_of_long_books(self):
        def members(book):
            return list(sum_members(book))
        self.assertEqual(caught(members, SumBook(15, 16, 0)), ("TooMany", 2 ** 15))
        self.assertEqual(caught(members, SumBook(200, 201, 0)), ("TooMany", 2 ** 200))
        found = members(SumBook(14, 15, 3))
        self.assertEqual(found, [word for word in every_word(2, 14) if plain_sum(word) % 15 == 3])

    def test_holding(self):
        for word in every_word_up_to(2, 5):
            for modulus in (len(word) + 1, len(word) + 2, 100, 10 ** 6):
                book = SumBook.holding(list(word), modulus)
                self.assertEqual(book, SumBook(len(word), modulus, plain_sum(word) % modulus))
                self.assertTrue(book.has(word))
        self.assertEqual(SumBook.holding([1] * 200, 201).rest, 200 * 201 // 2 % 201)
        for thing in NO_SEQUENCES + ([0] * 201,):
            self.assertEqual(caught(SumBook.holding, thing, None), ("BadWord", -1))
        self.assertEqual(caught(SumBook.holding, [0, 2], 0), ("BadWord", 1))
        for bad in (2, 0, -3, 10 ** 6 + 1) + NO_NUMBERS:
            self.assertEqual(caught(SumBook.holding, [0, 1], bad), ("BadModulus",))

    def test_contrary_and_turned(self):
        for length in range(6):
            for modulus in range(length + 1, length + 4):
                for rest in range(modulus):
                    book = SumBook(length, modulus, rest)
                    contrary = sorted(tuple(1 - x for x in word) for word in sum_members(book))
                    self.assertEqual(list(sum_members(book.contrary())), contrary)
                    self.assertEqual(book.contrary().modulus, modulus)
                    if not book.is_full:
                        self.assertEqual(caught(book.turned), ("NotPerfect",))
                        continue
                    turned = sorted(word[::-1] for word in sum_members(book))
                    self.assertEqual(list(sum_members(book.turned())), turned)
        self.assertEqual(SumBook(200, 201, 7).turned(), SumBook(200, 201, 194))
        self.assertEqual(SumBook(200, 300, 7).contrary(), SumBook(200, 300, (20100 - 7) % 300))


class Clashes(unittest.TestCase):
    """[3.6]."""

    def check_pair(self, length, modulus, rest):
        """Judge the pair of one length, modulus and rest by the words of the point."""
        pair = modulus_clash(length, modulus, rest)
        if modulus > length:
            self.assertIsNone(pair)
            return
        self.assertIsInstance(pair, NearPair)
        self.assertNotEqual(pair.one, pair.other)
        for word in (pair.one, pair.other):
            self.assertEqual(len(word), length)
            self.assertEqual(plain_sum(word) % modulus, rest)
            self.assertTrue(plain_is_below(pair.below, word))
            self.assertTrue(plain_is_below(word, pair.above))
        self.assertEqual((len(pair.below), len(pair.above)), (length - 1, length + 1))
        words = (pair.one, pair.other, pair.below, pair.above)
        self.assertTrue(made_of_tuples(words))
        self.assertTrue(all(letter in (0, 1) for word in words for letter in word))

    def test_small(self):
        for length in range(9):
            for modulus in range(1, length + 3):
                for rest in range(modulus):
                    self.check_pair(length, modulus, rest)

    def test_long(self):
        for modulus, rest in ((1, 0), (2, 1), (199, 198), (200, 0), (200, 199), (201, 3), (10 ** 6, 5)):
            self.check_pair(200, modulus, rest)

    def test_none_exactly_for_greater_moduli(self):
        for length in range(6):
            for modulus in range(1, length + 3):
                for rest in range(modulus):
                    words = [word for word in every_word(2, length) if plain_sum(word) % modulus == rest]
                    close = length > 0 and any(plain_below(one, 1) & plain_below(other, 1)
                                               for one in words for other in words if one < other)
                    if modulus > length:
                        self.assertFalse(close)
                    else:
                        self.assertTrue(close)

    def test_errors_in_order(self):
        for bad in (-1, 201) + NO_NUMBERS:
            self.assertEqual(caught(modulus_clash, bad, None, None), ("BadNumber",))
        for bad in (0, -1, 10 ** 6 + 1) + NO_NUMBERS:
            self.assertEqual(caught(modulus_clash, 4, bad, None), ("BadModulus",))
        for bad in (-1, 3) + NO_NUMBERS:
            self.assertEqual(caught(modulus_clash, 4, 3, bad), ("BadRest",))
            self.assertEqual(caught(modulus_clash, 0, 3, bad), ("BadRest",))


if __name__ == "__main__":
    unittest.main()
