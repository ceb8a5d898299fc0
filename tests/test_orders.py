"""lostplaces.orders: [7.1] to [7.6]."""

import math
import unittest
from itertools import permutations

from lostplaces.above import above_words
from lostplaces.orders import (
    check_row, contrary_order, count_by_rises, lacking_member, moves_apart, order_rises,
    order_total, order_with, places_tried, row_without, total_spread, turned_order,
)
from tests.helper import NO_NUMBERS, NO_SEQUENCES, caught, every_word, made_of_tuples, numbers

LONG = tuple(range(1, 41))
SHUFFLED = tuple(sorted(LONG, key=lambda member: member * 17 % 41))


def every_order(length):
    """All orders of one length, ascending."""
    return list(permutations(range(1, length + 1)))


def every_short_row(length):
    """All short rows of one length."""
    return list(permutations(range(1, length + 1), length - 1))


def plain_places(row):
    """The places at which the row rises."""
    return [place for place in range(1, len(row)) if row[place - 1] < row[place]]


def plain_rises(row):
    """The rise word of a row."""
    places = plain_places(row)
    return tuple(int(place in places) for place in range(1, len(row)))


def plain_moves(start):
    """The least number of moves from one order to each other one, move after move."""
    found = {start: 0}
    last = [start]
    while last:
        fresh = []
        for order in last:
            for at in range(len(order)):
                short = order[:at] + order[at + 1:]
                for to in range(len(order)):
                    made = short[:to] + (order[at],) + short[to:]
                    if made not in found:
                        found[made] = found[order] + 1
                        fresh.append(made)
        last = fresh
    return found


class Rows(unittest.TestCase):
    """[7.1]."""

    def test_good_rows(self):
        self.assertEqual(check_row(5, [3, 1], 2), (3, 1))
        self.assertEqual(check_row(1, [], 0), ())
        self.assertEqual(check_row(40, list(SHUFFLED), 40), SHUFFLED)
        self.assertEqual(check_row(1000, [1000], 1), (1000,))

    def test_errors(self):
        for thing in NO_SEQUENCES + ([], [1], [1, 2, 3], "12"):
            self.assertEqual(caught(check_row, 5, thing, 2), ("BadRow", -1))
        for bad in (0, -1, 6, [1]) + NO_NUMBERS:
            self.assertEqual(caught(check_row, 5, [1, bad, 1], 3), ("BadRow", 1))
        self.assertEqual(caught(check_row, 5, [1, 2, 1, 9], 4), ("BadRow", 2))
        self.assertEqual(caught(check_row, 5, [2, 1, 3, 3], 4), ("BadRow", 3))


class Rises(unittest.TestCase):
    """[7.2]."""

    def test_rows(self):
        rows = [row for length in range(1, 6) for row in every_order(length) + every_short_row(length)]
        for row in rows + [(), (40,), (40, 1, 39), LONG, LONG[::-1], SHUFFLED]:
            self.assertEqual(order_rises(list(row)), plain_rises(row))
            self.assertEqual(order_total(list(row)), sum(plain_places(row)))
        self.assertEqual((order_rises([]), order_total([])), ((), 0))
        self.assertEqual(order_total(LONG), 39 * 40 // 2)
        self.assertTrue(made_of_tuples(order_rises([1, 2])))

    def test_errors(self):
        for call in (order_rises, order_total):
            for thing in NO_SEQUENCES + (list(range(1, 42)), [True] * 41):
                self.assertEqual(caught(call, thing), ("BadRow", -1))
            for bad in (0, 41, -1, 7) + NO_NUMBERS:
                self.assertEqual(caught(call, [7, bad, bad]), ("BadRow", 1))


class Turned(unittest.TestCase):
    """[7.3]."""

    def test_all_small_orders(self):
        for length in range(1, 6):
            half = length * (length - 1) // 2
            for order in every_order(length):
                turned = turned_order(list(order))
                contrary = contrary_order(list(order))
                self.assertEqual(turned, order[::-1])
                self.assertEqual(contrary, tuple(length + 1 - member for member in order))
                total = order_total(order)
                self.assertEqual((order_total(turned) - total + half) % length, 0)
                self.assertEqual((order_total(contrary) - half + total) % length, 0)
                self.assertEqual((order_total(turned_order(contrary)) + total) % length, 0)
                self.assertTrue(made_of_tuples((turned, contrary)))

    def test_long(self):
        self.assertEqual(turned_order(LONG), LONG[::-1])
        self.assertEqual(contrary_order(LONG), LONG[::-1])
        self.assertEqual(contrary_order([1]), (1,))

    def test_errors(self):
        for call in (turned_order, contrary_order):
            for thing in NO_SEQUENCES + ([], (), list(range(1, 42))):
                self.assertEqual(caught(call, thing), ("BadRow", -1))
            for bad in (0, 4, 2) + NO_NUMBERS:
                self.assertEqual(caught(call, [2, bad, 1]), ("BadRow", 1))


class ShortRows(unittest.TestCase):
    """[7.4]."""

    def test_example(self):
        self.assertEqual(lacking_member(3, [3, 1]), 2)
        self.assertEqual([order_with(3, [3, 1], place) for place in (1, 2, 3)],
                         [(2, 3, 1), (3, 2, 1), (3, 1, 2)])
        self.assertEqual(places_tried(3, [3, 1]), ((1, 0), (0, 0), (0, 1)))

    def test_all_small_rows(self):
        for length in range(1, 6):
            for row in every_short_row(length):
                lacking = lacking_member(length, list(row))
                self.assertEqual({lacking} | set(row), set(range(1, length + 1)))
                orders = [order_with(length, list(row), place) for place in range(1, length + 1)]
                for at, order in enumerate(orders):
                    self.assertEqual(order, row[:at] + (lacking,) + row[at:])
                    self.assertEqual(row_without(list(order), lacking), row)
                words = places_tried(length, list(row))
                self.assertEqual(words, tuple(plain_rises(order) for order in orders))
                totals = sorted(order_total(order) % length for order in orders)
                self.assertEqual(totals, list(range(length)))
                self.assertTrue(made_of_tuples((words, tuple(orders))))
                if length > 1:
                    above = above_words(2, plain_rises(row), 1)
                    self.assertEqual(tuple(sorted(words)), above)
                else:
                    self.assertEqual(words, ((),))

    def test_without(self):
        for order in every_order(4):
            for member in range(1, 5):
                wanted = tuple(other for other in order if other != member)
                self.assertEqual(row_without(list(order), member), wanted)
        self.assertEqual(row_without([1], 1), ())
        self.assertEqual(row_without(LONG, 40), LONG[:-1])

    def test_long_rows(self):
        row = SHUFFLED[:13] + SHUFFLED[14:]
        self.assertEqual(lacking_member(40, row), SHUFFLED[13])
        self.assertEqual(order_with(40, row, 14), SHUFFLED)
        words = places_tried(40, row)
        self.assertEqual((len(words), len(set(words)), words[13]), (40, 40, plain_rises(SHUFFLED)))

    def test_lengths_and_rows(self):
        for call, more in ((lacking_member, ()), (order_with, (None,)), (places_tried, ())):
            for bad in (0, -1, 41) + NO_NUMBERS:
                self.assertEqual(caught(call, bad, None, *more), ("BadNumber",))
            for thing in NO_SEQUENCES + ([1, 2, 3], [1], []):
                self.assertEqual(caught(call, 3, thing, *more), ("BadRow", -1))
            for bad in (0, 4, 3) + NO_NUMBERS:
                self.assertEqual(caught(call, 3, [3, bad], *more), ("BadRow", 1))

    def test_places_and_members(self):
        for bad in (0, -1, 4) + NO_NUMBERS:
            self.assertEqual(caught(order_with, 3, [3, 1], bad), ("BadNumber",))
            self.assertEqual(caught(row_without, [3, 1, 2], bad), ("BadNumber",))
        for thing in NO_SEQUENCES + ([], list(range(1, 42))):
            self.assertEqual(caught(row_without, thing, None), ("BadRow", -1))
        self.assertEqual(caught(row_without, [3, 1], 9), ("BadRow", 0))
        self.assertEqual(caught(row_without, [2, 2], 9), ("BadRow", 1))


class Moves(unittest.TestCase):
    """[7.5]."""

    def test_against_all_moves(self):
        for length in range(1, 6):
            for one in every_order(length)[::3]:
                apart = plain_moves(one)
                for other in every_order(length):
                    self.assertEqual(moves_apart(list(one), list(other)), apart[other])

    def test_long(self):
        self.assertEqual(moves_apart(LONG, LONG), 0)
        self.assertEqual(moves_apart(LONG, LONG[::-1]), 39)
        self.assertEqual(moves_apart(LONG, LONG[5:] + LONG[:5]), 5)
        made = list(SHUFFLED)
        row = numbers(3)
        for many in range(1, 4):
            member = made.pop(next(row) % 40)
            made.insert(next(row) % 40, member)
            self.assertLessEqual(moves_apart(SHUFFLED, made), many)
        self.assertEqual(moves_apart([1], [1]), 0)

    def test_errors(self):
        for thing in NO_SEQUENCES + ([], list(range(1, 42))):
            self.assertEqual(caught(moves_apart, thing, None), ("BadRow", -1))
        self.assertEqual(caught(moves_apart, [3, 1], None), ("BadRow", 0))
        for thing in NO_SEQUENCES + ([], [1], [1, 2, 3]):
            self.assertEqual(caught(moves_apart, [2, 1], thing), ("BadRow", -1))
        for bad in (0, 3, 1) + NO_NUMBERS:
            self.assertEqual(caught(moves_apart, [2, 1], [1, bad]), ("BadRow", 1))


class Counts(unittest.TestCase):
    """[7.6]."""

    def test_by_rises_against_all_orders(self):
        for length in range(1, 8):
            counts = {}
            for order in every_order(length):
                word = plain_rises(order)
                counts[word] = counts.get(word, 0) + 1
            for word in every_word(2, length - 1):
                self.assertEqual(count_by_rises(list(word)), counts.get(word, 0))

    def test_by_rises_of_long_words(self):
        self.assertEqual(count_by_rises([1] * 39), 1)
        self.assertEqual(count_by_rises([0] * 39), 1)
        self.assertEqual(count_by_rises([1] * 20 + [0] * 19), math.comb(39, 20))
        self.assertEqual(count_by_rises([0] + [1] * 38), 39)
        self.assertEqual(count_by_rises((0, 1) * 19), count_by_rises((1, 0) * 19))

    def test_by_rises_errors(self):
        for thing in NO_SEQUENCES + ([0] * 40,):
            self.assertEqual(caught(count_by_rises, thing), ("BadWord", -1))
        self.assertEqual(caught(count_by_rises, [0, 2]), ("BadWord", 1))
        self.assertEqual(caught(count_by_rises, [0, 1, True]), ("BadWord", 2))

    def test_spread_against_all_orders(self):
        for length in range(1, 8):
            totals = [sum(plain_places(order)) for order in every_order(length)]
            wanted = tuple(totals.count(total) for total in range(length * (length - 1) // 2 + 1))
            self.assertEqual(total_spread(length), wanted)
        self.assertEqual(total_spread(1), (1,))

    def test_spread_is_the_product(self):
        for length in (8, 25, 39, 40):
            product = [1]
            for width in range(1, length + 1):
                fresh = [0] * (len(product) + width - 1)
                for power, number in enumerate(product):
                    for more in range(width):
                        fresh[power + more] += number
                product = fresh
            self.assertEqual(total_spread(length), tuple(product))
            self.assertEqual(sum(product), math.factorial(length))
        self.assertTrue(made_of_tuples(total_spread(6)))

    def test_spread_errors(self):
        for bad in (0, -1, 41) + NO_NUMBERS:
            self.assertEqual(caught(total_spread, bad), ("BadNumber",))


if __name__ == "__main__":
    unittest.main()
