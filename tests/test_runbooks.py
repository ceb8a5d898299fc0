"""lostplaces.runbooks: [8.6] to [8.10]."""

import math
import unittest
from itertools import combinations_with_replacement

from lostplaces.books import Book
from lostplaces.doubles import bears_runs
from lostplaces.runbooks import (
    LengthBook, SumsClash, length_members, length_size, members_near, run_book, run_size,
    sums_clash,
)
from tests.helper import (
    NO_NUMBERS, NO_SEQUENCES, caught, every_word, made_of_tuples,
)
from tests.test_doubles import plain_doubled, plain_runs, plain_shape, plain_swallowed

SHAPES = ((0,), (3,), (0, 1), (1, 0), (0, 1, 0), (2, 0, 1), (3, 1, 3, 0), (0, 1, 2, 3, 0))
EIGHT = (0, 1, 2, 3, 2, 1, 0, 3)
WEIGHTS = (1, 3, 4, 9, 2)
GREAT = 10 ** 6


def words_of(shape, length):
    """All words of one shape and length, ascending."""
    if len(shape) > length:
        return []
    words = {tuple(shape)}
    for _ in range(length - len(shape)):
        words = {new for old in words for new in plain_doubled(old, 1)}
    return sorted(words)


def weighed(weights, word):
    """The sum of weight times length over the runs."""
    return sum(weight * len(run) for weight, run in zip(weights, plain_runs(word)))


def plain_members(book):
    """The members of a length book by its definition."""
    return [word for word in words_of(book.shape, book.length)
            if weighed(book.weights, word) % book.modulus == book.rest]


def books_of(shape, length):
    """Length books of several weights and moduli with all rests."""
    runs = len(shape)
    return [
        LengthBook(list(shape), length, list(weights), modulus, rest)
        for weights in (tuple(range(1, runs + 1)), WEIGHTS[:runs], (GREAT,) * runs)
        for modulus in (1, runs, runs + 2, 11) for rest in range(modulus)
    ]


class Books(unittest.TestCase):
    """[8.6]."""

    def test_attributes_and_likeness(self):
        book = LengthBook([0, 1], 4, [1, 2], 3, 2)
        values = (book.shape, book.length, book.weights, book.modulus, book.rest)
        self.assertEqual(values, ((0, 1), 4, (1, 2), 3, 2))
        self.assertEqual(book, LengthBook((0, 1), 4, (1, 2), 3, 2))
        for other in (
            LengthBook([1, 0], 4, [1, 2], 3, 2), LengthBook([0, 1], 5, [1, 2], 3, 2),
            LengthBook([0, 1], 4, [1, 1], 3, 2), LengthBook([0, 1], 4, [1, 2], 4, 2),
            LengthBook([0, 1], 4, [1, 2], 3, 1), values, None,
        ):
            self.assertNotEqual(book, other)

    def test_bounds(self):
        book = LengthBook(EIGHT, 24, [GREAT] * 8, GREAT, GREAT - 1)
        self.assertEqual(book.shape, EIGHT)
        self.assertEqual(LengthBook([2], 1, [1], 1, 0).length, 1)
        self.assertEqual(LengthBook(EIGHT, 8, [1] * 8, 1, 0).length, 8)

    def test_errors_in_order(self):
        for thing in NO_SEQUENCES + ([], (), [0, 1] * 4 + [0], [0, 0] * 9):
            self.assertEqual(caught(LengthBook, thing, *[None] * 4), ("BadShape", -1))
            self.assertEqual(caught(run_book, thing, None, None), ("BadShape", -1))
        for bad in (-1, 4, 0) + NO_NUMBERS:
            self.assertEqual(caught(LengthBook, [0, bad], *[None] * 4), ("BadShape", 1))
            self.assertEqual(caught(run_book, [0, bad], None, None), ("BadShape", 1))
        for bad in (0, 1, 25) + NO_NUMBERS:
            self.assertEqual(caught(LengthBook, [0, 1], bad, *[None] * 3), ("BadNumber",))
            self.assertEqual(caught(run_book, [0, 1], bad, None), ("BadNumber",))
        for thing in NO_SEQUENCES + ([], [1], [1, 2, 3]):
            self.assertEqual(caught(LengthBook, [0, 1], 2, thing, 0, 0), ("BadWeights", -1))
        for bad in (0, -1, GREAT + 1) + NO_NUMBERS:
            self.assertEqual(caught(LengthBook, [0, 1, 0], 3, [1, bad, bad], 0, 0),
                             ("BadWeights", 1))
        for bad in (0, -1, GREAT + 1) + NO_NUMBERS:
            self.assertEqual(caught(LengthBook, [0, 1], 2, [1, 2], bad, None), ("BadModulus",))
        for bad in (-1, 3) + NO_NUMBERS:
            self.assertEqual(caught(LengthBook, [0, 1], 2, [1, 2], 3, bad), ("BadRest",))
        for bad in (-1, 2) + NO_NUMBERS:
            self.assertEqual(caught(run_book, [0, 1], 2, bad), ("BadRest",))

    def test_run_book(self):
        self.assertEqual(run_book([2, 0, 1], 7, 2), LengthBook([2, 0, 1], 7, [1, 2, 3], 3, 2))
        self.assertEqual(run_book([2], 24, 0), LengthBook([2], 24, [1], 1, 0))
        self.assertEqual(run_book(EIGHT, 8, 7).weights, (1, 2, 3, 4, 5, 6, 7, 8))

    def test_members_against_all_words(self):
        for shape in SHAPES:
            for length in range(len(shape), len(shape) + 4):
                for book in books_of(shape, length):
                    wanted = plain_members(book)
                    self.assertEqual(list(length_members(book)), wanted)
                    self.assertEqual(length_size(book), len(wanted))
                    self.assertTrue(made_of_tuples(tuple(length_members(book))))

    def test_has(self):
        for book in (LengthBook([0, 1], 4, [1, 2], 2, 0), LengthBook([1, 0, 1], 5, [1, 1, 3], 4, 1)):
            for length in range(7):
                for word in every_word(2, length):
                    self.assertIs(book.has(list(word)), word in plain_members(book))
            for thing in NO_SEQUENCES + ([0] * 25,):
                self.assertEqual(caught(book.has, thing), ("BadWord", -1))
            for bad in (-1, 4) + NO_NUMBERS:
                self.assertEqual(caught(book.has, [0, bad, bad]), ("BadWord", 1))
            self.assertIs(book.has([2, 3]), False)

    def test_too_many_members(self):
        shape = (0, 1, 2, 3, 0)
        self.assertEqual(len(list(length_members(LengthBook(shape, 17, [1] * 5, 1, 0)))), 1820)
        book = LengthBook(shape, 18, [1] * 5, 1, 0)
        self.assertEqual(caught(list, length_members(book)), ("TooMany", 2380))


class Reading(unittest.TestCase):
    """[8.7]."""

    def test_against_all_members(self):
        for shape in ((0,), (0, 1), (1, 0, 1), (0, 2, 1, 0)):
            length = len(shape) + 2
            for book in books_of(shape, length):
                members = plain_members(book)
                for other in range(len(shape), length + 4):
                    for word in words_of(shape, other):
                        if other < length:
                            near = [m for m in members if word in plain_swallowed(m, length - other)]
                        else:
                            near = [m for m in members if word in plain_doubled(m, other - length)]
                        self.assertEqual(members_near(book, list(word)), tuple(near))

    def test_other_shapes(self):
        book = LengthBook([0, 1], 4, [1, 1], 1, 0)
        for word in ([], [0], [1, 0], [0, 1, 0], [2, 1], [0, 1] * 12, [0] * 24):
            self.assertEqual(members_near(book, word), ())
        self.assertEqual(members_near(book, [0, 1]), ((0, 0, 0, 1), (0, 0, 1, 1), (0, 1, 1, 1)))

    def test_too_many(self):
        # The number of deeds counts, also where the word has few letters to swallow.
        book = LengthBook(EIGHT, 8, [1] * 8, 1, 0)
        self.assertEqual(len(members_near(book, EIGHT)), 1)
        longer = (0,) * 6 + EIGHT[1:]
        self.assertEqual(members_near(book, longer), (EIGHT,))
        longer = (0,) * 7 + EIGHT[1:]
        self.assertEqual(caught(members_near, book, longer), None)
        longer = (0,) * 8 + EIGHT[1:]
        self.assertEqual(caught(members_near, book, longer), ("TooMany", math.comb(14, 7)))
        far = LengthBook(EIGHT, 24, [1] * 8, 1, 0)
        self.assertEqual(caught(members_near, far, EIGHT), ("TooMany", math.comb(23, 7)))
        self.assertEqual(members_near(far, EIGHT[:7]), ())

    def test_errors(self):
        book = LengthBook([0, 1], 4, [1, 1], 1, 0)
        for thing in NO_SEQUENCES + ([0] * 25,):
            self.assertEqual(caught(members_near, book, thing), ("BadWord", -1))
        for bad in (-1, 4) + NO_NUMBERS:
            self.assertEqual(caught(members_near, book, [0, bad, bad]), ("BadWord", 1))


def plain_clash(weights, modulus, number):
    """The two lots of the first clash, by comparing all lots."""
    lots = list(combinations_with_replacement(range(1, len(weights) + 1), number))
    totals = {lot: sum(weights[run - 1] for run in lot) % modulus for lot in lots}
    for other in lots:
        for one in lots:
            if one < other and totals[one] == totals[other]:
                return (one, other)
    return None


class Sums(unittest.TestCase):
    """[8.8]."""

    def test_against_all_lots(self):
        for weights in ((1,), (1, 2), (2, 2), (1, 2, 3), (1, 3, 9), (5, 1, 12, 7), (1, 2, 5, 11, 19)):
            for modulus in (1, 2, 3, 5, 8, 13, 40, 100, GREAT):
                for number in range(5):
                    clash = sums_clash(list(weights), modulus, number)
                    wanted = plain_clash(weights, modulus, number)
                    if wanted is None:
                        self.assertIsNone(clash)
                    else:
                        self.assertEqual(clash, SumsClash(*wanted))
                        self.assertTrue(made_of_tuples((clash.one, clash.other)))

    def test_what_the_books_bear(self):
        for weights in ((1, 2), (1, 3), (2, 2), (1, 2, 3), (1, 3, 4), (1, 3, 9)):
            shape = (0, 1, 0)[:len(weights)]
            for modulus in (1, 2, 3, 4, 6, 9, 20):
                for number in (0, 1, 2):
                    clear = sums_clash(weights, modulus, number) is None
                    for length in range(len(shape), len(shape) + number + 2):
                        borne = [self.bears(shape, length, weights, modulus, rest, number)
                                 for rest in range(modulus)]
                        if clear or length >= len(shape) + number:
                            self.assertEqual(all(borne), clear)

    def bears(self, shape, length, weights, modulus, rest, number):
        """Whether the book of one rest bears the number, and reads at most one member then."""
        book = LengthBook(shape, length, weights, modulus, rest)
        members = plain_members(book)
        bears = bears_runs(Book(2, length, members), number)
        if bears:
            for more in range(-number, number + 1):
                for word in words_of(shape, length + more):
                    self.assertLessEqual(len(members_near(book, word)), 1)
        return bears

    def test_edges(self):
        self.assertIsNone(sums_clash([GREAT] * 8, 1, 0))
        self.assertIsNone(sums_clash([1], 1, 4))
        self.assertEqual(sums_clash([GREAT] * 8, GREAT, 4), SumsClash((1, 1, 1, 1), (1, 1, 1, 2)))
        self.assertIsNone(sums_clash([5 ** k for k in range(8)], GREAT, 4))

    def test_errors_in_order(self):
        for thing in NO_SEQUENCES + ([], [1] * 9, [0] * 9):
            self.assertEqual(caught(sums_clash, thing, None, None), ("BadWeights", -1))
        for bad in (0, -1, GREAT + 1) + NO_NUMBERS:
            self.assertEqual(caught(sums_clash, [1, bad, bad], None, None), ("BadWeights", 1))
            self.assertEqual(caught(sums_clash, [1, 2], bad, None), ("BadModulus",))
        for bad in (-1, 5) + NO_NUMBERS:
            self.assertEqual(caught(sums_clash, [1, 2], 3, bad), ("BadNumber",))


class Perfect(unittest.TestCase):
    """[8.9]."""

    def test_one_member_for_each_word(self):
        for shape in SHAPES:
            runs = len(shape)
            self.assertIsNone(sums_clash(list(range(1, runs + 1)), runs, 1))
            for length in range(runs + 1, runs + 4):
                for rest in range(runs):
                    book = run_book(shape, length, rest)
                    for word in words_of(shape, length - 1):
                        members = members_near(book, word)
                        self.assertEqual(len(members), 1)
                        run = (rest - weighed(book.weights, word)) % runs or runs
                        lengths = [len(part) for part in plain_runs(word)]
                        lengths[run - 1] += 1
                        self.assertEqual([len(part) for part in plain_runs(members[0])], lengths)

    def test_other_weights_with_unlike_rests(self):
        for weights, modulus in (((4, 2, 9), 3), ((7, 4, 6, 5), 4)):
            shape = (0, 1, 0, 1)[:modulus]
            for rest in range(modulus):
                book = LengthBook(shape, 7, weights, modulus, rest)
                for word in words_of(shape, 6):
                    self.assertEqual(len(members_near(book, word)), 1)

    def test_example(self):
        book = run_book((0, 1), 4, 0)
        self.assertEqual(list(length_members(book)), [(0, 0, 1, 1)])
        for word in ([0, 0, 1], [0, 1, 1]):
            self.assertEqual(members_near(book, word), ((0, 0, 1, 1),))


def counted(book):
    """The number of members, run by run and length by length."""
    table = {(0, 0): 1}
    for weight in book.weights:
        fresh = {}
        for (letters, total), many in table.items():
            for long in range(1, book.length - letters + 1):
                key = (letters + long, (total + weight * long) % book.modulus)
                fresh[key] = fresh.get(key, 0) + many
        table = fresh
    return table.get((book.length, book.rest), 0)


class Sizes(unittest.TestCase):
    """[8.10]."""

    def test_run_sizes_against_all_members(self):
        for runs in range(1, 6):
            shape = (0, 1, 0, 1, 0)[:runs]
            for length in range(runs, 11):
                sizes = [len(plain_members(run_book(shape, length, rest))) for rest in range(runs)]
                self.assertEqual([run_size(length, runs, rest) for rest in range(runs)], sizes)
                if math.gcd(length, runs) == 1:
                    self.assertEqual(len(set(sizes)), 1)

    def test_both_ways_for_longer_books(self):
        for length in (8, 12, 16, 23, 24):
            for runs in (1, 2, 4, 6, 7, 8):
                for rest in range(runs):
                    book = run_book(EIGHT[:runs], length, rest)
                    self.assertEqual(length_size(book), run_size(length, runs, rest))

    def test_longest(self):
        for runs in (1, 2, 3, 8, 100, 128, 199, 200):
            total = sum(run_size(200, runs, rest) for rest in range(runs))
            self.assertEqual(total, math.comb(199, runs - 1))
        self.assertEqual(run_size(1, 1, 0), 1)

    def test_table(self):
        weights = [3, GREAT, 17, 999, 5, 1, 2, 70]
        for rest in (0, 1, 500, 777, 999):
            book = LengthBook(EIGHT, 24, weights, 1000, rest)
            self.assertEqual(length_size(book), counted(book))
        sizes = [length_size(LengthBook(EIGHT, 24, weights, 7, rest)) for rest in range(7)]
        self.assertEqual(sum(sizes), math.comb(23, 7))
        book = LengthBook([0], 1, [1], 1001, 0)
        self.assertEqual(caught(length_size, book), ("TooMany", 1001))

    def test_errors_in_order(self):
        for bad in (0, -1, 201) + NO_NUMBERS:
            self.assertEqual(caught(run_size, bad, None, None), ("BadNumber",))
            self.assertEqual(caught(run_size, bad, 1, 0), ("BadNumber",))
        for bad in (0, -1, 6) + NO_NUMBERS:
            self.assertEqual(caught(run_size, 5, bad, None), ("BadNumber",))
            self.assertEqual(caught(run_size, 5, bad, 0), ("BadNumber",))
        for bad in (-1, 3) + NO_NUMBERS:
            self.assertEqual(caught(run_size, 5, 3, bad), ("BadRest",))


if __name__ == "__main__":
    unittest.main()
