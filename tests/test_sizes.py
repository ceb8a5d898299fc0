"""lostplaces.sizes: [4.3] to [4.6], and [4.12]."""

import math
import unittest

from lostplaces.divisors import odd_part
from lostplaces.sizes import book_sizes, extremes_of, size_by_ones, size_by_table, size_of
from tests.helper import NO_NUMBERS, caught, every_word, made_of_tuples, plain_sum


def plain_size(length, modulus, rest):
    """The number of words of a length with a place sum of this rest."""
    return sum(plain_sum(word) % modulus == rest for word in every_word(2, length))


class Sizes(unittest.TestCase):
    def test_example(self):
        self.assertEqual(book_sizes(4), (4, 3, 3, 3, 3))
        self.assertEqual((size_of(4, 0), size_of(4, 1)), (4, 3))
        self.assertEqual(size_by_ones(4, 0, 2), 2)

    def test_against_all_words(self):
        for length in range(10):
            sizes = tuple(plain_size(length, length + 1, rest) for rest in range(length + 1))
            self.assertEqual(book_sizes(length), sizes)
            for rest in range(length + 1):
                self.assertEqual(size_of(length, rest), sizes[rest])
            self.assertEqual(extremes_of(length), (max(sizes), min(sizes)))

    def test_by_ones_against_all_words(self):
        for length in range(9):
            words = every_word(2, length)
            for rest in range(length + 1):
                members = [word for word in words if plain_sum(word) % (length + 1) == rest]
                for ones in range(length + 1):
                    wanted = sum(sum(word) == ones for word in members)
                    self.assertEqual(size_by_ones(length, rest, ones), wanted)

    def test_by_table_against_all_words(self):
        for length in range(8):
            for modulus in list(range(1, 14)) + [200]:
                for rest in range(modulus):
                    wanted = plain_size(length, modulus, rest)
                    self.assertEqual(size_by_table(length, modulus, rest), wanted)

    def test_all_ways_agree_at_long_lengths(self):
        for length in (31, 44, 59, 60):
            sizes = book_sizes(length)
            self.assertEqual(sum(sizes), 2 ** length)
            self.assertEqual(extremes_of(length), (sizes[0], sizes[1]))
            for rest in range(0, length + 1, 7):
                self.assertEqual(size_by_table(length, length + 1, rest), sizes[rest])
        for length in (199, 200):
            for rest in (0, 1, 67, length):
                by_ones = [size_by_ones(length, rest, ones) for ones in range(length + 1)]
                self.assertEqual(sum(by_ones), size_of(length, rest))
            self.assertEqual(sum(size_of(length, rest) for rest in range(length + 1)), 2 ** length)
            self.assertEqual(extremes_of(length), (size_of(length, 0), size_of(length, 1)))

    def test_by_ones_over_all_rests(self):
        for length in (0, 1, 11, 44, 200):
            for ones in (0, 1, length // 2, length):
                if ones <= length:
                    total = sum(size_by_ones(length, rest, ones) for rest in range(length + 1))
                    self.assertEqual(total, math.comb(length, ones))

    def test_by_table_at_its_bounds(self):
        self.assertEqual(size_by_table(60, 1, 0), 2 ** 60)
        self.assertEqual(sum(size_by_table(60, 200, rest) for rest in range(200)), 2 ** 60)
        self.assertEqual(size_by_table(0, 200, 199), 0)

    def test_sizes_grow_with_the_odd_part(self):
        for length in range(1, 61):
            sizes = book_sizes(length)
            by_part = {}
            for rest, size in enumerate(sizes):
                part = odd_part(math.gcd(length + 1, rest))
                self.assertEqual(by_part.setdefault(part, size), size)
            for low in by_part:
                for high in by_part:
                    if high % low == 0 and high != low:
                        self.assertLess(by_part[low], by_part[high])

    def test_lengths_0_and_1(self):
        self.assertEqual((book_sizes(0), book_sizes(1)), ((1,), (1, 1)))
        self.assertEqual((extremes_of(0), extremes_of(1)), ((1, 1), (1, 1)))
        self.assertEqual((size_of(0, 0), size_by_ones(0, 0, 0), size_by_table(0, 1, 0)), (1, 1, 1))
        self.assertTrue(made_of_tuples((book_sizes(5), extremes_of(5))))


class Errors(unittest.TestCase):
    def test_lengths(self):
        for most, call, more in ((200, size_of, 1), (200, size_by_ones, 2), (60, size_by_table, 2),
                                 (60, book_sizes, 0), (200, extremes_of, 0)):
            for bad in (-1, most + 1) + NO_NUMBERS:
                self.assertEqual(caught(call, bad, *[None] * more), ("BadNumber",))
            self.assertIsNone(caught(call, most, *[1, 0][:more]))

    def test_rests(self):
        for bad in (-1, 5) + NO_NUMBERS:
            self.assertEqual(caught(size_of, 4, bad), ("BadRest",))
            self.assertEqual(caught(size_by_ones, 4, bad, None), ("BadRest",))
            self.assertEqual(caught(size_by_table, 9, 5, bad), ("BadRest",))
        self.assertEqual(caught(size_of, 0, 1), ("BadRest",))

    def test_ones_and_moduli(self):
        for bad in (-1, 5) + NO_NUMBERS:
            self.assertEqual(caught(size_by_ones, 4, 4, bad), ("BadNumber",))
        for bad in (-1, 0, 201) + NO_NUMBERS:
            self.assertEqual(caught(size_by_table, 4, bad, None), ("BadModulus",))


if __name__ == "__main__":
    unittest.main()
