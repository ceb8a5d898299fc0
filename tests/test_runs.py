"""lostplaces.runs: [1.5]."""

import unittest
from itertools import groupby

from lostplaces.runs import check_shape, count_runs, lengths_of, shape_of, word_of_runs
from tests.helper import NO_NUMBERS, NO_SEQUENCES, caught, every_word_up_to


class Runs(unittest.TestCase):
    def test_ordinary(self):
        word = [0, 0, 1, 2, 2, 2, 0]
        self.assertEqual(count_runs(word), 4)
        self.assertEqual(shape_of(word), (0, 1, 2, 0))
        self.assertEqual(lengths_of(word), (2, 1, 3, 1))
        self.assertEqual(word, [0, 0, 1, 2, 2, 2, 0])
        self.assertEqual(count_runs([3, 3]), 1)
        self.assertEqual(shape_of([3, 3]), (3,))
        self.assertEqual(lengths_of([3, 3]), (2,))

    def test_empty_word(self):
        self.assertEqual(count_runs(()), 0)
        self.assertEqual(shape_of([]), ())
        self.assertEqual(lengths_of([]), ())
        self.assertEqual(word_of_runs([], []), ())
        self.assertEqual(check_shape([]), ())

    def test_all_small_words(self):
        for word in every_word_up_to(3, 5):
            groups = [(letter, len(list(same))) for letter, same in groupby(word)]
            self.assertEqual(count_runs(word), len(groups))
            self.assertEqual(shape_of(word), tuple(letter for letter, _ in groups))
            self.assertEqual(lengths_of(word), tuple(length for _, length in groups))
            self.assertEqual(word_of_runs(shape_of(word), lengths_of(word)), word)

    def test_bad_words(self):
        for call in (count_runs, shape_of, lengths_of):
            for thing in NO_SEQUENCES + ([0] * 25,):
                self.assertEqual(caught(call, thing), ("BadWord", -1))
            self.assertEqual(caught(call, [0, 4]), ("BadWord", 1))
            self.assertEqual(caught(call, [True]), ("BadWord", 0))

    def test_bad_shapes(self):
        for thing in NO_SEQUENCES + ([0, 1] * 12 + [0],):
            self.assertEqual(caught(check_shape, thing), ("BadShape", -1))
            self.assertEqual(caught(word_of_runs, thing, None), ("BadShape", -1))
        self.assertEqual(check_shape([0, 1] * 12), (0, 1) * 12)
        self.assertEqual(caught(check_shape, [0, 1, 0], 2), ("BadShape", -1))
        self.assertEqual(check_shape([0, 1] * 13, most=26), (0, 1) * 13)
        self.assertEqual(caught(check_shape, [0, 1, 1, 9]), ("BadShape", 2))
        for bad in (-1, 4) + NO_NUMBERS:
            self.assertEqual(caught(check_shape, [2, bad, bad]), ("BadShape", 1))

    def test_bad_lengths(self):
        for thing in NO_SEQUENCES + ([1], [1, 1, 1]):
            self.assertEqual(caught(word_of_runs, (0, 1), thing), ("BadLengths", -1))
        for bad in (0, -1, 25) + NO_NUMBERS:
            self.assertEqual(caught(word_of_runs, (0, 1), [1, bad]), ("BadLengths", 1))
        self.assertEqual(caught(word_of_runs, (0, 1, 0), [24, 24, 0]), ("BadLengths", 2))
        self.assertEqual(caught(word_of_runs, (0, 1), [12, 13]), ("BadLengths", -1))
        self.assertEqual(word_of_runs((0, 1), [12, 12]), (0,) * 12 + (1,) * 12)
        self.assertEqual(word_of_runs([3], [24]), (3,) * 24)
        self.assertEqual(caught(word_of_runs, (0, 0), [1]), ("BadShape", 1))


if __name__ == "__main__":
    unittest.main()
