"""lostplaces.severals: [6.6] to [6.10]."""

import unittest

from lostplaces.above import above_count
from lostplaces.below import below_count
from lostplaces.books import Book
from lostplaces.judged import bears_lost
from lostplaces.severals import TooClose, close_couple, members_behind, read_several
from lostplaces.weights import WeightBook, steep_modulus, weight_members, weights_for
from tests.helper import (
    NO_NUMBERS, NO_SEQUENCES, caught, chance_words, every_word, made_of_tuples, plain_above,
    plain_below, plain_common,
)

EXAMPLE = WeightBook(2, (1, 2, 4, 7), 12, 0)
SMALL = (EXAMPLE, WeightBook(2, (3, 1, 1, 2), 3, 1), WeightBook(3, (1, 3, 2), 4, 2),
         WeightBook(4, (1, 5), 3, 0), WeightBook(2, (), 1, 0), WeightBook(2, (), 2, 1),
         WeightBook(2, (1, 1, 1, 1, 1), 1, 0), WeightBook(3, (9,), 10 ** 16, 18))


class Behind(unittest.TestCase):
    """[6.6] and [6.7]."""

    def test_against_a_plain_search(self):
        for book in SMALL:
            members = list(weight_members(book))
            for lost in range(book.length + 1):
                for put in range(3):
                    comes = {word: [] for word in every_word(book.letters, book.length - lost + put)}
                    for member in members:
                        for word in {long for short in plain_below(member, lost)
                                     for long in plain_above(book.letters, short, put)}:
                            comes[word].append(member)
                    for word, wanted in comes.items():
                        found = members_behind(book, list(word), lost, put)
                        self.assertEqual(found, tuple(wanted))
                        for member in members:
                            near = plain_common(member, word) >= book.length - lost
                            self.assertEqual(near, member in wanted)

    def test_reading_follows(self):
        for book in SMALL:
            for lost in range(book.length + 1):
                for put in range(2):
                    for word in every_word(book.letters, book.length - lost + put):
                        members = members_behind(book, word, lost, put)
                        read = read_several(book, list(word), lost, put)
                        if len(members) > 1:
                            self.assertTrue(read == TooClose(members[0], members[1]))
                        else:
                            self.assertEqual(read, members[0] if members else None)
                        self.assertTrue(made_of_tuples(members))

    def test_example(self):
        self.assertEqual(members_behind(EXAMPLE, [1, 1], 2, 0), ((1, 0, 1, 1),))
        self.assertEqual(read_several(EXAMPLE, (1, 1), 2, 0), (1, 0, 1, 1))

    def test_errors(self):
        for call in (members_behind, read_several):
            for thing in NO_SEQUENCES + ([0] * 25,):
                self.assertEqual(caught(call, EXAMPLE, thing, None, None), ("BadWord", -1))
            self.assertEqual(caught(call, EXAMPLE, [0, 2], 9, 9), ("BadWord", 1))
            self.assertEqual(caught(call, EXAMPLE, [False], 9, 9), ("BadWord", 0))
            for bad in (-1, 5) + NO_NUMBERS:
                for put in (None, 0, 2):
                    self.assertEqual(caught(call, EXAMPLE, [0], bad, put), ("BadNumber",))
            for bad in (-1, 25) + NO_NUMBERS:
                self.assertEqual(caught(call, EXAMPLE, [0], 4, bad), ("BadNumber",))
            for length in (0, 2, 4, 24):
                self.assertEqual(caught(call, EXAMPLE, [0] * length, 2, 1), ("NotOneOff",))
            self.assertEqual(caught(call, EXAMPLE, [0] * 20, 4, 24), ("NotOneOff",))

    def test_too_many(self):
        book = WeightBook(2, weights_for(2, 3, 24)[:-1], 10 ** 16, 0)
        word = (0, 1) * 12
        for call in (members_behind, read_several):
            for lost, put in ((3, 3), (12, 12), (24, 24), (2, 2)):
                count = below_count(word, put) * above_count(2, 24 - lost, lost)
                self.assertGreater(count, 2000)
                self.assertEqual(caught(call, book, word, lost, put), ("TooMany", count))
            count = 24 * 25
            self.assertIsNone(caught(call, book, word, 1, 1))
        self.assertEqual(below_count(word, 1) * above_count(2, 23, 1), count)
        zeros = (0,) * 13
        self.assertEqual(above_count(2, 13, 3), 697)
        self.assertIsNone(caught(members_behind, WeightBook(2, (1,) * 16, 5, 0), zeros, 3, 0))
        self.assertEqual(caught(members_behind, WeightBook(2, (1,) * 11, 5, 0), [], 11, 0),
                         ("TooMany", 2048))
        found = members_behind(WeightBook(2, (1,) * 10, 1, 0), [], 10, 0)
        self.assertEqual(found, tuple(every_word(2, 10)))

    def test_too_many_at_its_bound(self):
        just = tuple(int(sign) for sign in "10001101101010101101")
        over = tuple(int(sign) for sign in "10101010000010011110010")
        self.assertEqual(below_count(just, 2) * above_count(2, 18, 1), 2000)
        self.assertEqual(below_count(over, 2) * above_count(2, 21, 1), 2001)
        for call in (members_behind, read_several):
            self.assertIsNone(caught(call, WeightBook(2, (1,) * 19, 5, 0), just, 1, 2))
            book = WeightBook(2, (1,) * 22, 5, 0)
            self.assertEqual(caught(call, book, over, 1, 2), ("TooMany", 2001))

    def test_lists_stay(self):
        word = [1, 1]
        members_behind(EXAMPLE, word, 2, 0)
        self.assertEqual(word, [1, 1])

    def test_result(self):
        result = TooClose([0], other=None)
        self.assertEqual((result.one, result.other), ([0], None))
        self.assertTrue(result == TooClose([0], None))
        for other in (TooClose([1], None), TooClose([0], 0), ([0], None), None):
            self.assertTrue(result != other)


class Bearing(unittest.TestCase):
    """[6.9]."""

    def test_every_rest_bears_what_the_weights_are_steep_by(self):
        for letters, length, lost in ((2, 5, 1), (2, 5, 2), (2, 4, 3), (3, 3, 1), (3, 3, 2), (4, 2, 1)):
            told = weights_for(letters, lost, length)
            steeper = [2 * weight for weight in told[:-1]]
            for weights, modulus in ((told[:-1], told[-1]), (told[:-1], told[-1] + 3),
                                     (steeper, steep_modulus(letters, steeper, lost))):
                for rest in range(modulus):
                    members = list(weight_members(WeightBook(letters, weights, modulus, rest)))
                    if len(members) <= 64:
                        self.assertTrue(bears_lost(Book(letters, length, members), lost))

    def test_reading_of_long_words(self):
        for letters in (2, 3, 4):
            told = weights_for(letters, 2, 20)
            for word in chance_words(letters, letters, 20, 2):
                total = sum(weight * letter for weight, letter in zip(told, word))
                book = WeightBook(letters, told[:-1], told[-1], total % told[-1])
                for at in (0, 7, 19):
                    short = word[:at] + word[at + 1:]
                    self.assertEqual(read_several(book, short, 1, 0), word)
                    longer = word[:at] + (letters - 1,) + word[at:]
                    self.assertEqual(read_several(book, longer, 0, 1), word)
                    self.assertEqual(read_several(book, longer[1:], 1, 1), word)
                    if letters == 2:
                        self.assertEqual(read_several(book, short[1:], 2, 0), word)
                        self.assertEqual(read_several(book, longer + (0,), 0, 2), word)

    def test_never_too_close(self):
        book = WeightBook(2, weights_for(2, 2, 5)[:-1], weights_for(2, 2, 5)[-1], 3)
        for lost, put in ((2, 0), (1, 1), (0, 2), (1, 0), (0, 1), (0, 0)):
            for word in every_word(2, 5 - lost + put):
                self.assertNotIsInstance(read_several(book, word, lost, put), TooClose)


class CloseCouples(unittest.TestCase):
    """[6.10]."""

    def test_against_a_plain_search(self):
        for letters, lots in ((2, ((), (1,), (1, 2, 4), (3, 1, 1, 2), (1, 2, 4, 7, 12))),
                              (3, ((2,), (1, 3), (1, 2, 5))), (4, ((1, 1), (1, 4)))):
            for weights in lots:
                words = every_word(letters, len(weights))
                sums = [sum(w * x for w, x in zip(weights, word)) for word in words]
                for modulus in (1, 2, 3, 5, 8, 12, 100):
                    for lost in range(len(weights) + 1):
                        wanted = None
                        for at, one in enumerate(words):
                            for to in range(at + 1, len(words)):
                                if wanted is None and (sums[at] - sums[to]) % modulus == 0:
                                    if plain_common(one, words[to]) >= len(weights) - lost:
                                        wanted = (one, words[to])
                        found = close_couple(letters, list(weights), modulus, lost)
                        self.assertEqual(found, wanted)
                        self.assertTrue(made_of_tuples(found))

    def test_steep_weights_and_one_less(self):
        for letters, length, lost in ((2, 6, 1), (2, 6, 2), (2, 5, 3), (3, 3, 1), (3, 3, 2), (4, 3, 1)):
            told = weights_for(letters, lost, length)
            self.assertIsNone(close_couple(letters, told[:-1], told[-1], lost))
            self.assertIsNotNone(close_couple(letters, told[:-1], told[-1], length))
            self.assertIsNone(close_couple(letters, told[:-1], 10 ** 16, lost))
            self.assertIsNotNone(close_couple(letters, told[:-1], told[-1] - 1, lost))
            less = told[:-2] + (told[-2] - 1,)
            self.assertIsNotNone(close_couple(letters, less, 10 ** 16, lost))

    def test_none_exactly_if_every_rest_bears(self):
        for weights in ((1, 2, 3, 4), (1, 1, 1), (2, 4, 1, 7)):
            for modulus in (3, 5, 6, 12):
                for lost in range(len(weights) + 1):
                    borne = all(
                        bears_lost(Book(2, len(weights), list(weight_members(book))), lost)
                        for book in [WeightBook(2, weights, modulus, rest) for rest in range(modulus)]
                    )
                    self.assertEqual(close_couple(2, weights, modulus, lost) is None, borne)

    def test_errors(self):
        for bad in (1, 5) + NO_NUMBERS:
            self.assertEqual(caught(close_couple, bad, None, None, None), ("BadLetters",))
        for thing in NO_SEQUENCES + ([1] * 25,):
            self.assertEqual(caught(close_couple, 2, thing, None, None), ("BadWeights", -1))
        self.assertEqual(caught(close_couple, 2, [1] * 23 + [0], 0, 99), ("BadWeights", 23))
        for bad in (0, -1, 10 ** 16 + 1) + NO_NUMBERS:
            self.assertEqual(caught(close_couple, 2, [1] * 24, bad, None), ("BadModulus",))
        for bad in (-1, 8) + NO_NUMBERS:
            self.assertEqual(caught(close_couple, 2, [1] * 7, 5, bad), ("BadNumber",))
        for letters, most in ((2, 6), (3, 3), (4, 3)):
            self.assertIsNone(caught(close_couple, letters, [1] * most, 5, most))
            for length in (most + 1, 24):
                self.assertEqual(caught(close_couple, letters, [1] * length, 5, length),
                                 ("TooMany", letters ** length))


if __name__ == "__main__":
    unittest.main()
