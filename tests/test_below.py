"""lostplaces.below: [1.6], [1.7], [1.8], [1.10]."""

import unittest

from lostplaces.below import below_bounds, below_count, below_places, below_words, greatest_below
from lostplaces.runs import count_runs
from lostplaces.words import choose_of, word_of_text
from tests.helper import (
    NO_NUMBERS, NO_SEQUENCES, caught, chance_words, every_word, every_word_up_to, made_of_tuples,
    plain_below, plain_is_below,
)


class BelowWords(unittest.TestCase):
    """[1.6], [1.7]."""

    def test_against_a_plain_search(self):
        for word in every_word_up_to(2, 7) + every_word_up_to(4, 4):
            for lost in range(len(word) + 2):
                wanted = tuple(sorted(plain_below(word, lost)))
                self.assertEqual(below_words(word, lost), wanted)
                self.assertEqual(below_count(word, lost), len(wanted))

    def test_edges(self):
        self.assertEqual(below_words([], 0), ((),))
        self.assertEqual(below_words([], 1), ())
        self.assertEqual(below_words([0, 1], 2), ((),))
        self.assertEqual(below_words([0, 1], 24), ())
        self.assertEqual(below_words([0, 1], 0), ((0, 1),))
        self.assertEqual(below_count([], 0), 1)
        self.assertEqual(below_count([0], 60), 0)
        self.assertEqual(below_count([0] * 60, 60), 1)

    def test_few_words_where_one_loss_fewer_gives_many(self):
        word = (0, 1, 2, 3) * 6
        self.assertEqual(below_words(word, 22), tuple(every_word(4, 2)))
        self.assertGreater(below_count(word, 12), 10 ** 5)

    def test_too_many(self):
        word = (0, 1) * 12
        for lost in range(25):
            count = below_count(word, lost)
            if count > 2000:
                self.assertEqual(caught(below_words, word, lost), ("TooMany", count))
            else:
                self.assertEqual(len(below_words(word, lost)), count)

    def test_just_2000_and_one_more(self):
        word = word_of_text(3, "0112120012122000211021")
        self.assertEqual(below_count(word, 4), 2000)
        self.assertEqual(below_words(word, 4), tuple(sorted(plain_below(word, 4))))
        word = word_of_text(3, "000220221212022202011")
        self.assertEqual(caught(below_words, word, 5), ("TooMany", 2001))

    def test_counts_of_long_words(self):
        word = (0, 1) * 30
        self.assertEqual(below_count(word, 0), 1)
        self.assertEqual(below_count(word, 1), 60)
        for lost in range(61):
            wanted = greatest_below(2, 40, lost) if lost <= 40 else 0
            self.assertEqual(below_count(word[:40], lost), wanted)

    def test_bounds_by_runs(self):
        for word in every_word_up_to(3, 6) + chance_words(5, 3, 20, 20):
            runs = count_runs(word)
            if word:
                self.assertEqual(below_count(word, 1), runs)
            for lost in range(len(word) + 1):
                least, greatest = below_bounds(runs, lost)
                self.assertTrue(least <= below_count(word, lost) <= greatest)

    def test_bounds(self):
        for runs in range(61):
            self.assertEqual(below_bounds(runs, 0), (1, 1))
            for lost in range(1, 61):
                wanted = (choose_of(runs - lost + 1, lost), choose_of(runs + lost - 1, lost))
                self.assertEqual(below_bounds(runs, lost), wanted)
        self.assertEqual(below_bounds(4, 2), (3, 10))
        self.assertEqual(below_bounds(0, 1), (0, 0))
        self.assertEqual(below_bounds(0, 5), (0, 0))

    def test_errors(self):
        for thing in NO_SEQUENCES + ([0] * 25,):
            self.assertEqual(caught(below_words, thing, None), ("BadWord", -1))
        for thing in NO_SEQUENCES + ([0] * 61,):
            self.assertEqual(caught(below_count, thing, None), ("BadWord", -1))
        self.assertEqual(caught(below_words, [0, 1, True], 0), ("BadWord", 2))
        self.assertEqual(caught(below_words, [3, 4], 0), ("BadWord", 1))
        self.assertEqual(caught(below_count, [0, 4], 99), ("BadWord", 1))
        for bad in (-1, 25) + NO_NUMBERS:
            self.assertEqual(caught(below_words, (0, 1) * 12, bad), ("BadNumber",))
        for bad in (-1, 61) + NO_NUMBERS:
            self.assertEqual(caught(below_count, (0,), bad), ("BadNumber",))
            self.assertEqual(caught(below_bounds, bad, 0), ("BadNumber",))
            self.assertEqual(caught(below_bounds, 0, bad), ("BadNumber",))

    def test_lists_stay_and_tuples_return(self):
        word = [0, 1, 1, 0]
        self.assertTrue(made_of_tuples(below_words(word, 2)))
        below_count(word, 2)
        below_places(word, word)
        self.assertEqual(word, [0, 1, 1, 0])


class Greatest(unittest.TestCase):
    """[1.8]."""

    def test_example(self):
        self.assertEqual(greatest_below(2, 4, 2), 4)
        self.assertEqual(below_words((0, 1, 0, 1), 2), ((0, 0), (0, 1), (1, 0), (1, 1)))

    def test_small_words(self):
        for letters, most in ((2, 8), (3, 5), (4, 4)):
            for length in range(most + 1):
                for lost in range(length + 2):
                    greatest = max(len(plain_below(word, lost)) for word in every_word(letters, length))
                    self.assertEqual(greatest_below(letters, length, lost), greatest)

    def test_the_word_that_has_so_many(self):
        for letters in (2, 3, 4):
            for length in (10, 25, 40):
                word = tuple(at % letters for at in range(length))
                for lost in range(length + 1):
                    self.assertEqual(greatest_below(letters, length, lost), below_count(word, lost))
                self.assertEqual(greatest_below(letters, length, 0), 1)
        self.assertEqual(greatest_below(4, 39, 40), 0)
        self.assertEqual(greatest_below(3, 0, 0), 1)

    def test_errors(self):
        for bad in (1, 5) + NO_NUMBERS:
            self.assertEqual(caught(greatest_below, bad, None, None), ("BadLetters",))
        for bad in (-1, 41) + NO_NUMBERS:
            self.assertEqual(caught(greatest_below, 2, bad, 0), ("BadNumber",))
            self.assertEqual(caught(greatest_below, 2, 0, bad), ("BadNumber",))


class Places(unittest.TestCase):
    """[1.10]."""

    def test_ordinary(self):
        self.assertEqual(below_places((1, 0), (0, 1, 1, 0, 0)), (2, 4))
        self.assertEqual(below_places([], [0, 1]), ())
        self.assertEqual(below_places([], []), ())
        self.assertIsNone(below_places((1, 1), (0, 1)))
        self.assertIsNone(below_places((0,), ()))

    def test_all_small_words(self):
        words = every_word_up_to(2, 5)
        for short in words:
            for long in words:
                places = below_places(short, long)
                if places is None:
                    self.assertFalse(plain_is_below(short, long))
                    continue
                self.assertEqual(tuple(long[place - 1] for place in places), short)
                for index, place in enumerate(places):
                    behind = places[index - 1] if index else 0
                    self.assertNotIn(short[index], long[behind:place - 1])
                    self.assertLess(behind, place)

    def test_errors(self):
        for thing in NO_SEQUENCES + ([0] * 25,):
            self.assertEqual(caught(below_places, thing, None), ("BadWord", -1))
            self.assertEqual(caught(below_places, (), thing), ("BadWord", -1))
        self.assertEqual(caught(below_places, (0, 4), (4,)), ("BadWord", 1))
        self.assertEqual(caught(below_places, (0,), (0, 0, True)), ("BadWord", 2))
        self.assertEqual(caught(below_places, (0,), (3, 4)), ("BadWord", 1))
        self.assertEqual(below_places([3] * 24, [3] * 24), tuple(range(1, 25)))


if __name__ == "__main__":
    unittest.main()
