"""lostplaces.weights: [6.1] to [6.5]."""

import inspect
import unittest

from lostplaces.weights import (
    WeightBook, check_weights, rest_sizes, richest_rest, steep_by, steep_modulus, weight_members,
    weight_size, weights_for,
)
from tests.helper import (
    NO_NUMBERS, NO_SEQUENCES, caught, every_word, made_of_tuples, numbers,
)

EXAMPLE = WeightBook(2, (1, 2, 4, 7), 12, 0)
SMALL = ((2, (1, 2, 4, 7)), (2, (5, 1, 3)), (2, (2, 2, 2, 2, 2)), (3, (1, 3, 9)), (3, (7, 7)),
         (4, (2, 5, 1)), (2, ()), (4, (10 ** 15,)))


def plain_sum_by(weights, word):
    """The sum by weights of a word."""
    return sum(weights[at] * word[at] for at in range(len(word)))


def plain_sizes(letters, weights, modulus):
    """The sizes of all rests, by looking at all words."""
    sizes = [0] * modulus
    for word in every_word(letters, len(weights)):
        sizes[plain_sum_by(weights, word) % modulus] += 1
    return tuple(sizes)


def is_steep(letters, weights, number):
    """Whether the weights are steep by the number, by the definition."""
    for at in range(len(weights)):
        ahead = weights[at - number:at] if at >= number else weights[:at]
        if weights[at] <= (letters - 1) * sum(ahead):
            return False
    return True


class Weights(unittest.TestCase):
    """[6.1]."""

    def test_good_ones(self):
        self.assertEqual(check_weights([]), ())
        self.assertEqual(check_weights([10 ** 15, 1]), (10 ** 15, 1))
        self.assertEqual(check_weights(tuple(range(1, 25))), tuple(range(1, 25)))

    def test_errors(self):
        for thing in NO_SEQUENCES + ([1] * 25,):
            self.assertEqual(caught(check_weights, thing), ("BadWeights", -1))
        for bad in (0, -1, 10 ** 15 + 1) + NO_NUMBERS:
            self.assertEqual(caught(check_weights, [1, 2, bad, bad]), ("BadWeights", 2))
            self.assertEqual(caught(check_weights, (1,) * 23 + (bad,)), ("BadWeights", 23))

    def test_a_list_may_change_later(self):
        weights = [1, 2, 4]
        checked = check_weights(weights)
        book = WeightBook(2, weights, 5, 0)
        weights[0] = 3
        self.assertEqual((checked, book.weights), ((1, 2, 4), (1, 2, 4)))


class Steep(unittest.TestCase):
    """[6.2] and [6.3]."""

    def test_steep_by(self):
        row = numbers(5)
        lots = [weights for _, weights in SMALL]
        for length in (1, 2, 3, 5, 8):
            lots += [[next(row) % 4 + 2 ** at for at in range(length)] for _ in range(12)]
        for letters in (2, 3, 4):
            for weights in lots:
                steep = [number for number in range(len(weights) + 1)
                         if is_steep(letters, weights, number)]
                self.assertEqual(steep, list(range(len(steep))))
                self.assertEqual(steep_by(letters, weights), steep[-1])

    def test_steep_values(self):
        self.assertEqual(steep_by(2, []), 0)
        self.assertEqual(steep_by(4, [1]), 1)
        self.assertEqual(steep_by(2, [1, 1]), 0)
        self.assertEqual(steep_by(2, (1, 2, 4, 7)), 2)
        self.assertEqual(steep_by(2, (1, 2, 4, 6)), 1)
        self.assertEqual(steep_by(2, (1, 2, 4, 8)), 4)
        self.assertEqual(steep_by(3, (1, 2, 4)), 0)
        self.assertEqual(steep_by(3, (1, 3, 9)), 3)
        self.assertEqual(steep_by(2, [2 ** at for at in range(24)]), 24)
        self.assertEqual(steep_by(2, [1] * 24), 0)

    def test_steep_modulus(self):
        for letters in (2, 3, 4):
            for weights in ((), (5,), (1, 2, 4, 7), tuple(range(1, 25))):
                for lost in range(25):
                    last = list(weights)[::-1][:lost]
                    wanted = 1 + (letters - 1) * sum(last)
                    self.assertEqual(steep_modulus(letters, list(weights), lost), wanted)

    def test_told_weights(self):
        self.assertEqual(weights_for(2, 2, 4), (1, 2, 4, 7, 12))
        for letters in (2, 3, 4):
            for length in (0, 1, 2, 7, 24):
                for lost in (0, 1, 2, 3, 23, 24):
                    told = weights_for(letters, lost, length)
                    self.assertEqual(len(told), length + 1)
                    for at in range(length + 1):
                        ahead = told[max(0, at - lost):at]
                        self.assertEqual(told[at], 1 + (letters - 1) * sum(ahead))
                    self.assertEqual(told[-1], steep_modulus(letters, told[:-1], lost))
                    self.assertGreaterEqual(steep_by(letters, told[:-1]), min(lost, length))
        self.assertEqual(weights_for(2, 1, 24), tuple(range(1, 26)))
        self.assertEqual(weights_for(4, 24, 24), tuple(4 ** at for at in range(25)))
        self.assertEqual(weights_for(3, 0, 3), (1, 1, 1, 1))
        self.assertTrue(made_of_tuples(weights_for(3, 2, 5)))

    def test_one_less_is_no_longer_steep(self):
        for letters in (2, 3, 4):
            told = weights_for(letters, 2, 6)[:-1]
            for at in range(1, 6):
                less = told[:at] + (told[at] - 1,) + told[at + 1:]
                self.assertLess(steep_by(letters, less), 2)

    def test_errors(self):
        for bad in (1, 5) + NO_NUMBERS:
            self.assertEqual(caught(steep_by, bad, None), ("BadLetters",))
            self.assertEqual(caught(steep_modulus, bad, None, None), ("BadLetters",))
            self.assertEqual(caught(weights_for, bad, None, None), ("BadLetters",))
        for thing in NO_SEQUENCES + ([1] * 25,):
            self.assertEqual(caught(steep_by, 2, thing), ("BadWeights", -1))
            self.assertEqual(caught(steep_modulus, 2, thing, None), ("BadWeights", -1))
        self.assertEqual(caught(steep_by, 2, [1, 0]), ("BadWeights", 1))
        self.assertEqual(caught(steep_modulus, 2, [True], 99), ("BadWeights", 0))
        for bad in (-1, 25) + NO_NUMBERS:
            self.assertEqual(caught(steep_modulus, 2, [1], bad), ("BadNumber",))
            self.assertEqual(caught(weights_for, 2, bad, 1), ("BadNumber",))
            self.assertEqual(caught(weights_for, 2, 1, bad), ("BadNumber",))


class Books(unittest.TestCase):
    """[6.4]."""

    def test_example(self):
        self.assertEqual(list(weight_members(EXAMPLE)), [(0, 0, 0, 0), (1, 0, 1, 1)])

    def test_attributes(self):
        book = WeightBook(letters=3, weights=[4, 1], modulus=10 ** 16, rest=10 ** 16 - 1)
        self.assertEqual((book.letters, book.weights, book.length), (3, (4, 1), 2))
        self.assertEqual((book.modulus, book.rest), (10 ** 16, 10 ** 16 - 1))

    def test_equal(self):
        self.assertTrue(EXAMPLE == WeightBook(2, [1, 2, 4, 7], 12, 0))
        for other in (WeightBook(3, (1, 2, 4, 7), 12, 0), WeightBook(2, (1, 2, 4, 8), 12, 0),
                      WeightBook(2, (1, 2, 4, 7), 13, 0), WeightBook(2, (1, 2, 4, 7), 12, 1), None):
            self.assertTrue(EXAMPLE != other)

    def test_has_and_members(self):
        self.assertTrue(inspect.isgeneratorfunction(weight_members))
        for letters, weights in SMALL:
            for modulus in (1, 2, 5, 9, 12, 10 ** 16):
                for rest in {0, 1, modulus // 2, modulus - 1}:
                    if rest < modulus:
                        book = WeightBook(letters, weights, modulus, rest)
                        words = every_word(letters, len(weights))
                        wanted = [word for word in words
                                  if plain_sum_by(weights, word) % modulus == rest]
                        self.assertEqual(list(weight_members(book)), wanted)
                        for word in words:
                            self.assertIs(book.has(list(word)), word in wanted)
        for length in (0, 3, 5, 24):
            self.assertIs(EXAMPLE.has([0] * length), False)
        self.assertTrue(made_of_tuples(tuple(weight_members(EXAMPLE))))

    def test_errors_in_order(self):
        for bad in (1, 5) + NO_NUMBERS:
            self.assertEqual(caught(WeightBook, bad, None, None, None), ("BadLetters",))
        for thing in NO_SEQUENCES + ([1] * 25,):
            self.assertEqual(caught(WeightBook, 2, thing, None, None), ("BadWeights", -1))
        self.assertEqual(caught(WeightBook, 2, [1, 10 ** 15 + 1], 0, 0), ("BadWeights", 1))
        for bad in (0, -1, 10 ** 16 + 1) + NO_NUMBERS:
            self.assertEqual(caught(WeightBook, 2, [1], bad, None), ("BadModulus",))
        for bad in (-1, 5) + NO_NUMBERS:
            self.assertEqual(caught(WeightBook, 2, [1], 5, bad), ("BadRest",))

    def test_words(self):
        for thing in NO_SEQUENCES + ([0] * 25,):
            self.assertEqual(caught(EXAMPLE.has, thing), ("BadWord", -1))
        self.assertEqual(caught(EXAMPLE.has, [0, 2]), ("BadWord", 1))
        self.assertEqual(caught(EXAMPLE.has, [0, 1, 1, True]), ("BadWord", 3))


class Sizes(unittest.TestCase):
    """[6.5]."""

    def test_too_many_members(self):
        for letters, most in ((2, 11), (3, 6), (4, 5)):
            book = WeightBook(letters, [1] * most, 1, 0)
            self.assertEqual(list(weight_members(book)), every_word(letters, most))
            for length in (most + 1, 24):
                book = WeightBook(letters, [1] * length, 1, 0)
                self.assertEqual(caught(next, weight_members(book)), ("TooMany", letters ** length))

    def test_against_all_words(self):
        for letters, weights in SMALL:
            for modulus in (1, 2, 5, 12, 100):
                wanted = plain_sizes(letters, weights, modulus)
                self.assertEqual(rest_sizes(letters, list(weights), modulus), wanted)
                most = max(wanted)
                self.assertEqual(richest_rest(letters, weights, modulus), (wanted.index(most), most))
                for rest in range(modulus):
                    book = WeightBook(letters, weights, modulus, rest)
                    self.assertEqual(weight_size(book), wanted[rest])

    def test_many_weights(self):
        weights = list(weights_for(4, 2, 24))[:-1]
        weights = [weight % 10 ** 15 + 1 for weight in weights]
        for modulus in (1, 4095, 4096):
            sizes = rest_sizes(4, weights, modulus)
            self.assertEqual(sum(sizes), 4 ** 24)
            rest, most = richest_rest(4, weights, modulus)
            self.assertEqual((sizes.index(most), max(sizes)), (rest, most))
            self.assertGreaterEqual(most * modulus, 4 ** 24)
            self.assertEqual(weight_size(WeightBook(4, weights, modulus, rest)), most)
        self.assertTrue(made_of_tuples((sizes, richest_rest(2, [1], 3))))

    def test_sizes_without_weights(self):
        self.assertEqual(rest_sizes(2, [], 3), (1, 0, 0))
        self.assertEqual(richest_rest(2, [], 3), (0, 1))
        self.assertEqual(list(weight_members(WeightBook(2, [], 3, 0))), [()])
        self.assertEqual(list(weight_members(WeightBook(2, [], 3, 1))), [])

    def test_errors(self):
        for call in (rest_sizes, richest_rest):
            for bad in (1, 5) + NO_NUMBERS:
                self.assertEqual(caught(call, bad, None, None), ("BadLetters",))
            for thing in NO_SEQUENCES + ([1] * 25,):
                self.assertEqual(caught(call, 2, thing, None), ("BadWeights", -1))
            self.assertEqual(caught(call, 2, [0], 9999), ("BadWeights", 0))
            for bad in (0, -1, 10 ** 16 + 1) + NO_NUMBERS:
                self.assertEqual(caught(call, 2, [1], bad), ("BadModulus",))
            for modulus in (4097, 10 ** 16):
                self.assertEqual(caught(call, 2, [1], modulus), ("TooMany", modulus))
        for modulus in (4097, 10 ** 16):
            self.assertEqual(caught(weight_size, WeightBook(2, [1], modulus, 0)), ("TooMany", modulus))


if __name__ == "__main__":
    unittest.main()
