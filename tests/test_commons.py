"""lostplaces.commons: [1.11], [1.12]."""

import unittest

from lostplaces.above import above_count
from lostplaces.below import below_count, below_words
from lostplaces.commons import come_to, common_length, common_word, shortest_above, shortest_fault
from lostplaces.words import word_of_text
from tests.helper import (
    NO_NUMBERS, NO_SEQUENCES, caught, chance_words, every_word, every_word_up_to, made_of_tuples,
    plain_above, plain_below, plain_common, plain_is_below, table_common,
)


class Commons(unittest.TestCase):
    """[1.11]."""

    def check_couple(self, one, other, length):
        self.assertEqual(common_length(one, other), length)
        word = common_word(one, other)
        self.assertEqual(len(word), length)
        self.assertTrue(plain_is_below(word, one) and plain_is_below(word, other))
        above = shortest_above(one, other)
        self.assertEqual(len(above), len(one) + len(other) - length)
        self.assertTrue(plain_is_below(one, above) and plain_is_below(other, above))
        self.assertIsNone(shortest_fault(one, other, above))

    def test_all_small_words(self):
        words = every_word_up_to(2, 5) + every_word(3, 3)
        for one in words:
            for other in words:
                length = plain_common(one, other)
                self.check_couple(one, other, length)
                both = plain_below(one, len(one) - length) & plain_below(other, len(other) - length)
                self.assertEqual(common_word(one, other), min(both))

    def test_long_words(self):
        for letters in (2, 3, 4):
            words = chance_words(letters, letters, 48, 8) + chance_words(9, letters, 24, 4)
            for one in words:
                for other in words:
                    self.check_couple(one, other, table_common(one, other))

    def test_edges(self):
        self.check_couple((), (), 0)
        self.check_couple((), (0,) * 48, 0)
        self.check_couple((0,) * 48, (1,) * 48, 0)
        self.check_couple((3,) * 48, (3,) * 48, 48)
        self.assertEqual(shortest_above([0] * 48, []), (0,) * 48)

    def test_least_common_word(self):
        self.assertEqual(common_word((1, 0), (0, 1)), (0,))
        self.assertEqual(common_word([3, 2], [2, 3]), (2,))
        self.assertEqual(common_word((1, 1, 0, 0), (0, 0, 1, 1)), (0, 0))

    def test_faults(self):
        one, other = (0, 1), (1, 0)
        self.assertIsNone(shortest_fault(one, other, (0, 1, 0)))
        self.assertIsNone(shortest_fault(one, other, [1, 0, 1]))
        self.assertEqual(shortest_fault(one, other, (1, 0, 0)), "one")
        self.assertEqual(shortest_fault(one, other, ()), "one")
        self.assertEqual(shortest_fault(one, other, (0, 1)), "other")
        self.assertEqual(shortest_fault(one, other, (0, 1, 1)), "other")
        self.assertEqual(shortest_fault(one, other, (0, 1, 0, 0)), "length")
        self.assertEqual(shortest_fault((0,) * 48, (1,) * 48, (0,) * 48 + (1,) * 48), None)
        self.assertEqual(shortest_fault((), (), [2] * 96), "length")

    def test_errors(self):
        for call in (common_length, common_word, shortest_above):
            for thing in NO_SEQUENCES + ([0] * 49,):
                self.assertEqual(caught(call, thing, None), ("BadWord", -1))
                self.assertEqual(caught(call, (), thing), ("BadWord", -1))
            self.assertEqual(caught(call, (0, 4), (True,)), ("BadWord", 1))
            self.assertEqual(caught(call, (0, 3), (0, 0, True)), ("BadWord", 2))
            self.assertEqual(caught(call, (0, 3), (0, 3, 4)), ("BadWord", 2))
        for thing in NO_SEQUENCES:
            self.assertEqual(caught(shortest_fault, (), (), thing), ("BadWord", -1))
        self.assertEqual(caught(shortest_fault, [0] * 49, None, None), ("BadWord", -1))
        self.assertEqual(caught(shortest_fault, (), [0] * 49, None), ("BadWord", -1))
        self.assertEqual(caught(shortest_fault, (1,), (), [0] * 97), ("BadWord", -1))
        self.assertEqual(caught(shortest_fault, (1,), (), [3, 4]), ("BadWord", 1))
        self.assertEqual(caught(shortest_fault, (1,), (3, 4), [3, 4, 5]), ("BadWord", 1))
        self.assertEqual(caught(shortest_fault, (4,), (0, 4), [0, 5]), ("BadWord", 0))

    def test_lists_stay_and_tuples_return(self):
        one, other = [0, 1, 1], [1, 0, 1]
        self.assertTrue(made_of_tuples(common_word(one, other)))
        self.assertTrue(made_of_tuples(shortest_above(one, other)))
        shortest_fault(one, other, one)
        common_length(one, other)
        self.assertEqual((one, other), ([0, 1, 1], [1, 0, 1]))


def plain_come_to(letters, word, lost, put):
    """All words by letters lost and then put in, by two plain searches."""
    shorter = plain_below(word, lost)
    return tuple(sorted(set().union(*[plain_above(letters, short, put) for short in shorter])))


class ComeTo(unittest.TestCase):
    """[1.12]."""

    def test_example(self):
        self.assertEqual(come_to(2, (0, 1), 1, 1), tuple(every_word(2, 2)))

    def test_against_a_plain_search(self):
        for letters, most in ((2, 5), (3, 3)):
            for word in every_word_up_to(letters, most):
                for lost in range(len(word) + 2):
                    for put in range(3):
                        wanted = plain_come_to(letters, word, lost, put)
                        self.assertEqual(come_to(letters, word, lost, put), wanted)

    def test_by_common_words(self):
        for word in every_word(2, 4):
            for lost in range(5):
                for put in range(4):
                    found = come_to(2, word, lost, put)
                    for other in every_word(2, 4 - lost + put):
                        self.assertEqual(other in found, plain_common(word, other) >= 4 - lost)

    def test_two_mixed_steps(self):
        word = (0, 1, 1, 0, 1)
        steps = {last for first in come_to(2, word, 1, 2) for last in come_to(2, first, 2, 1)}
        self.assertEqual(tuple(sorted(steps)), come_to(2, word, 3, 3))

    def test_edges(self):
        self.assertEqual(come_to(2, [], 0, 0), ((),))
        self.assertEqual(come_to(2, [], 1, 0), ())
        self.assertEqual(come_to(4, [0], 2, 24), ())
        self.assertEqual(come_to(2, [0, 1], 2, 1), ((0,), (1,)))
        self.assertEqual(come_to(2, [0] * 24, 24, 10), tuple(every_word(2, 10)))

    def test_too_many(self):
        self.assertEqual(caught(come_to, 2, (), 0, 11), ("TooMany", 2048))
        self.assertEqual(caught(come_to, 2, (0, 1) * 12, 2, 1), ("TooMany", 254 * 24))
        self.assertEqual(caught(come_to, 4, (0, 1, 2, 3) * 6, 12, 24)[0], "TooMany")

    def test_just_2000_and_one_more(self):
        word = word_of_text(3, "0112120012122000211021")
        self.assertEqual(come_to(3, word, 4, 0), below_words(word, 4))
        self.assertEqual(len(come_to(3, word, 4, 0)), 2000)
        word = word_of_text(3, "000220221212022202011")
        self.assertEqual(caught(come_to, 3, word, 5, 0), ("TooMany", 2001))

    def test_the_count_is_a_product_and_no_number_of_unlike_words(self):
        # There are 512 words of 9 letters, but 8 words below and 466 above each.
        self.assertEqual(caught(come_to, 2, (0, 1) * 3, 3, 6), ("TooMany", 8 * 466))
        for lost in range(7):
            for put in range(9):
                count = below_count((0, 1) * 3, lost) * above_count(2, 6 - lost, put)
                wanted = ("TooMany", count) if count > 2000 else None
                self.assertEqual(caught(come_to, 2, (0, 1) * 3, lost, put), wanted)

    def test_errors(self):
        for bad in (1, 5) + NO_NUMBERS:
            self.assertEqual(caught(come_to, bad, None, None, None), ("BadLetters",))
        for thing in NO_SEQUENCES + ([0] * 25,):
            self.assertEqual(caught(come_to, 2, thing, None, None), ("BadWord", -1))
        self.assertEqual(caught(come_to, 2, (0, 2), None, None), ("BadWord", 1))
        for bad in (-1, 25) + NO_NUMBERS:
            self.assertEqual(caught(come_to, 2, (0,), bad, None), ("BadNumber",))
            self.assertEqual(caught(come_to, 2, (0,), bad, 0), ("BadNumber",))
            self.assertEqual(caught(come_to, 2, (0,), 0, bad), ("BadNumber",))
            self.assertEqual(caught(come_to, 2, (0,), 9, bad), ("BadNumber",))

    def test_lists_stay_and_tuples_return(self):
        word = [0, 1, 1]
        self.assertTrue(made_of_tuples(come_to(2, word, 1, 2)))
        self.assertEqual(word, [0, 1, 1])


if __name__ == "__main__":
    unittest.main()
