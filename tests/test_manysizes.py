"""lostplaces.manysizes: the sizes of [5.11]."""

import unittest

from lostplaces.manysizes import many_size_of, size_rows
from tests.helper import NO_NUMBERS, caught, every_word, made_of_tuples

SMALL = [(2, length) for length in range(1, 9)] + [(3, length) for length in range(1, 6)]
SMALL += [(4, length) for length in range(1, 5)]


def plain_rows(letters, length):
    """All sizes, by looking at all words."""
    rows = [[0] * letters for _ in range(length)]
    for word in every_word(letters, length):
        rises = sum(place for place in range(1, length) if word[place] >= word[place - 1])
        rows[rises % length][sum(word) % letters] += 1
    return tuple(tuple(row) for row in rows)


class Sizes(unittest.TestCase):
    def test_against_all_words(self):
        for letters, length in SMALL:
            rows = plain_rows(letters, length)
            self.assertEqual(size_rows(letters, length), rows)
            for rest in range(length):
                for total in range(letters):
                    self.assertEqual(many_size_of(letters, length, rest, total), rows[rest][total])

    def test_all_rests_and_totals_hold_all_words(self):
        for letters in (2, 3, 4):
            for length in (1, 12, 59, 60):
                rows = size_rows(letters, length)
                self.assertEqual((len(rows), {len(row) for row in rows}), (length, {letters}))
                self.assertEqual(sum(sum(row) for row in rows), letters ** length)
                self.assertEqual(rows[-1][-1], many_size_of(letters, length, length - 1, letters - 1))
                self.assertTrue(made_of_tuples(rows))

    def test_length_1(self):
        self.assertEqual(size_rows(3, 1), ((1, 1, 1),))


class Errors(unittest.TestCase):
    def test_letters_and_lengths(self):
        for bad in (1, 5) + NO_NUMBERS:
            self.assertEqual(caught(many_size_of, bad, None, None, None), ("BadLetters",))
            self.assertEqual(caught(size_rows, bad, None), ("BadLetters",))
        for bad in (0, -1, 61) + NO_NUMBERS:
            self.assertEqual(caught(many_size_of, 2, bad, None, None), ("BadNumber",))
            self.assertEqual(caught(size_rows, 2, bad), ("BadNumber",))

    def test_rests_and_totals(self):
        for bad in (-1, 5) + NO_NUMBERS:
            self.assertEqual(caught(many_size_of, 2, 5, bad, None), ("BadRest",))
        for bad in (-1, 3) + NO_NUMBERS:
            self.assertEqual(caught(many_size_of, 3, 5, 4, bad), ("BadTotal",))


if __name__ == "__main__":
    unittest.main()
