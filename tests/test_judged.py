"""lostplaces.judged: [2.4] to [2.8], and [0.5] for its results."""

import unittest

from lostplaces.books import Book
from lostplaces.commons import common_length
from lostplaces.judged import (
    NearPair, Thinned, all_readings, bears_lost, borne_of, couple_counts, near_pair, pair_fault,
    read_by_book, thinned_book,
)
from tests.helper import (
    NO_NUMBERS, NO_SEQUENCES, caught, chance_words, every_word, every_word_up_to, made_of_tuples,
    plain_above, plain_below, plain_common, plain_is_below, some_books, table_common,
)

EXAMPLE = Book(2, 4, [(0, 0, 0, 0), (0, 1, 1, 0), (1, 0, 0, 1), (1, 1, 1, 1)])


def plain_couples(book):
    """The couples of a book in their order."""
    return [(one, other) for one in book for other in book if one < other]


def plain_bears(book, number):
    """Whether no two members have a common word below both by the number."""
    return not any(plain_below(one, number) & plain_below(other, number)
                   for one, other in plain_couples(book))


def plain_reached(letters, word, steps):
    """All words that come of the word by at most so many letters lost and put in."""
    reached = {word}
    for _ in range(steps):
        reached |= {new for old in reached for new in plain_below(old, 1)} | {
            new for old in reached for new in plain_above(letters, old, 1)}
    return reached


class Borne(unittest.TestCase):
    """[2.4]."""

    def test_against_a_plain_search(self):
        for book in some_books():
            borne = [number for number in range(book.length + 1) if plain_bears(book, number)]
            self.assertEqual(borne_of(book), borne[-1])
            for number in range(book.length + 1):
                self.assertIs(bears_lost(book, number), number in borne)

    def test_the_same_by_words_above_and_by_both(self):
        for book in some_books(2):
            if book.length > 3 or book.letters > 2:
                continue
            for number in range(book.length + 1):
                above = [plain_above(book.letters, word, number) for word in book]
                both = [plain_reached(book.letters, word, number) for word in book]
                for sets in (above, both):
                    alone = all(not one & other for at, one in enumerate(sets)
                                for other in sets[at + 1:])
                    self.assertIs(bears_lost(book, number), alone)

    def test_edges(self):
        self.assertEqual(borne_of(Book(2, 0, [])), 0)
        self.assertEqual(borne_of(Book(2, 0, [()])), 0)
        self.assertEqual(borne_of(Book(2, 24, [])), 24)
        self.assertEqual(borne_of(Book(3, 24, [[2] * 24])), 24)
        self.assertEqual(borne_of(Book(2, 24, [[0] * 24, [1] * 24])), 23)
        self.assertEqual(borne_of(EXAMPLE), 1)
        self.assertEqual(borne_of(Book(2, 6, every_word(2, 6))), 0)

    def test_turning_and_contraries(self):
        for book in some_books(3):
            self.assertEqual(borne_of(book.turned()), borne_of(book))
            self.assertEqual(borne_of(book.contrary()), borne_of(book))

    def test_stretched(self):
        self.assertEqual(borne_of(EXAMPLE.stretched(2)), 3)
        for book in some_books(4):
            if book.size > 1:
                for times in (1, 2, 3, 4):
                    wanted = times * (borne_of(book) + 1) - 1
                    self.assertEqual(borne_of(book.stretched(times)), wanted)

    def test_errors(self):
        for call in (bears_lost, near_pair, thinned_book):
            for bad in (-1, 5) + NO_NUMBERS:
                self.assertEqual(caught(call, EXAMPLE, bad), ("BadNumber",))
            self.assertIsNone(caught(call, EXAMPLE, 4))


class Couples(unittest.TestCase):
    """[2.5]."""

    def test_counts(self):
        self.assertEqual(couple_counts(EXAMPLE), (0, 0, 5, 0, 1))
        self.assertEqual(couple_counts(Book(2, 0, [()])), (0,))
        self.assertEqual(couple_counts(Book(2, 3, [])), (0, 0, 0, 0))
        for book in some_books(5):
            apart = [book.length - plain_common(*couple) for couple in plain_couples(book)]
            counts = tuple(apart.count(number) for number in range(book.length + 1))
            self.assertEqual(couple_counts(book), counts)
            for number in range(book.length + 1):
                self.assertIs(bears_lost(book, number), not any(counts[:number + 1]))

    def test_a_great_book(self):
        book = Book(4, 24, chance_words(3, 4, 24, 64))
        counts = couple_counts(book)
        self.assertEqual(sum(counts), 64 * 63 // 2)
        apart = [24 - table_common(*couple) for couple in plain_couples(book)[:200]]
        self.assertEqual(borne_of(book) + 1, min(at for at, count in enumerate(counts) if count))
        self.assertGreaterEqual(min(apart), borne_of(book) + 1)


class NearPairs(unittest.TestCase):
    """[2.6]."""

    def test_example(self):
        pair = near_pair(EXAMPLE, 2)
        self.assertEqual((pair.one, pair.other), ((0, 0, 0, 0), (0, 1, 1, 0)))
        self.assertEqual(pair.below, (0, 0))
        wanted = NearPair((0, 0, 0, 0), (0, 1, 1, 0), (0, 0), (0, 0, 0, 1, 1, 0))
        self.assertIsNone(pair_fault(EXAMPLE, 2, wanted))
        self.assertIsNone(near_pair(EXAMPLE, 1))

    def test_by_the_words_of_the_point(self):
        for book in some_books(6) + [Book(3, 24, chance_words(8, 3, 24, 6))]:
            for number in range(book.length + 1):
                pair = near_pair(book, number)
                near = [couple for couple in plain_couples(book)
                        if book.length - table_common(*couple) <= number]
                if not near:
                    self.assertIsNone(pair)
                    continue
                self.assertEqual((pair.one, pair.other), near[0])
                self.assertEqual(len(pair.below), book.length - number)
                self.assertEqual(len(pair.above), book.length + number)
                self.assertTrue(all(0 <= letter < book.letters for letter in pair.above))
                for member in near[0]:
                    self.assertTrue(plain_is_below(pair.below, member))
                    self.assertTrue(plain_is_below(member, pair.above))
                self.assertIsNone(pair_fault(book, number, pair))
                self.assertTrue(made_of_tuples((pair.one, pair.other, pair.below, pair.above)))

    def test_faults(self):
        one, other = (0, 0, 0, 0), (0, 1, 1, 0)
        below, above = (0, 0), (0, 1, 1, 0, 0, 0)
        for pair, word in (
            (NearPair(one, other, below, above), None),
            (NearPair(other, one, below, above), "one"),
            (NearPair((0, 0, 0), other, below, above), "one"),
            (NearPair((1, 0, 0, 1), (1, 1, 1, 1), (1, 1), (1, 1, 0, 0, 1, 1)), "one"),
            (NearPair(one, one, below, above), "other"),
            (NearPair(one, (1, 0, 0, 1), below, above), "other"),
            (NearPair(one, (9,), (9,), (9,)), "other"),
            (NearPair(one, other, (0,), above), "below"),
            (NearPair(one, other, (0, 0, 0), above), "below"),
            (NearPair(one, other, (0, 1), above), "below"),
            (NearPair(one, other, (1, 1), (9,)), "below"),
            (NearPair(one, other, (0, 2), above), "below"),
            (NearPair(one, other, below, (0, 1, 1, 0, 0)), "above"),
            (NearPair(one, other, below, above + (0,)), "above"),
            (NearPair(one, other, below, (0, 1, 0, 0, 0, 1)), "above"),
            (NearPair(one, other, below, (0, 1, 1, 0, 0, 1)), "above"),
            (NearPair(one, other, below, (0, 2, 1, 0, 0, 0)), "above"),
        ):
            self.assertEqual(pair_fault(EXAMPLE, 2, pair), word)
        self.assertEqual(pair_fault(EXAMPLE, 1, NearPair(one, other, below, above)), "one")
        # All letters of the book count, also those that no member has.
        book = Book(3, 4, EXAMPLE.words)
        self.assertIsNone(pair_fault(book, 4, NearPair(one, other, (), (2, 2) + above)))
        self.assertEqual(pair_fault(EXAMPLE, 4, NearPair(one, other, (), (2, 2) + above)), "above")
        self.assertEqual(pair_fault(EXAMPLE, 0, NearPair(one, other, below, above)), "one")
        for bad in (-1, 5) + NO_NUMBERS:
            self.assertEqual(caught(pair_fault, EXAMPLE, bad, None), ("BadNumber",))

    def test_words_below_or_above_one_member_alone(self):
        one, other = (0, 0, 1, 1), (0, 1, 1, 0)
        book = Book(2, 4, [one, other])
        below, above = (0, 1, 1), (0, 0, 1, 1, 0)
        self.assertIsNone(pair_fault(book, 1, NearPair(one, other, below, above)))
        for bad in ((0, 0, 1), (1, 1, 0)):
            self.assertEqual(pair_fault(book, 1, NearPair(one, other, bad, above)), "below")
        for bad in ((0, 0, 1, 1, 1), (0, 1, 1, 0, 0)):
            self.assertEqual(pair_fault(book, 1, NearPair(one, other, below, bad)), "above")

    def test_results(self):
        pair = NearPair(1, [2], "three", None)
        self.assertEqual((pair.one, pair.other, pair.below, pair.above), (1, [2], "three", None))
        self.assertTrue(pair == NearPair(1, [2], "three", None))
        for parts in ((0, [2], "three", None), (1, [], "three", None), (1, [2], "", None),
                      (1, [2], "three", 4)):
            self.assertTrue(pair != NearPair(*parts))
        self.assertFalse(pair == (1, [2], "three", None))
        thinned = Thinned(1, 2)
        self.assertTrue(thinned == Thinned(book=1, rows=2))
        self.assertTrue(thinned != Thinned(1, 3) and thinned != Thinned(0, 2) and thinned != pair)


class ThinnedBooks(unittest.TestCase):
    """[2.7]."""

    def test_example(self):
        thinned = thinned_book(EXAMPLE, 2)
        self.assertEqual(thinned.book, Book(2, 4, [(0, 0, 0, 0), (1, 1, 1, 1)]))
        rows = (((0, 1, 1, 0), (0, 0, 0, 0)), ((1, 0, 0, 1), (0, 0, 0, 0)))
        self.assertEqual(thinned.rows, rows)

    def test_by_the_words_of_the_point(self):
        for book in some_books(7):
            for number in range(book.length + 1):
                thinned = thinned_book(book, number)
                kept, rows = [], []
                for word in book.words:
                    near = [old for old in kept if book.length - plain_common(old, word) <= number]
                    if near:
                        rows.append((word, near[0]))
                    else:
                        kept.append(word)
                self.assertEqual(thinned, Thinned(Book(book.letters, book.length, kept), tuple(rows)))
                self.assertTrue(made_of_tuples(thinned.rows))
                self.assertTrue(bears_lost(thinned.book, number))
                for word, _ in thinned.rows:
                    self.assertFalse(bears_lost(thinned.book.put(word), number))


class Readings(unittest.TestCase):
    """[2.8]."""

    def test_against_a_plain_search(self):
        for book in some_books(8):
            if book.length > 3:
                continue
            for number in range(book.length + 1):
                reached = {word: plain_reached(book.letters, word, number) for word in book}
                for word in every_word_up_to(book.letters, min(book.length + number + 1, 5)):
                    wanted = tuple(member for member in book if word in reached[member])
                    self.assertEqual(all_readings(book, list(word), number), wanted)

    def test_by_common_words(self):
        words = chance_words(4, 3, 24, 5)
        book = Book(3, 24, words)
        for word in words + chance_words(5, 3, 30, 4) + [(), (0,) * 48]:
            for number in (0, 10, 20, 24):
                wanted = tuple(member for member in book
                               if 24 + len(word) - 2 * common_length(member, word) <= number)
                self.assertEqual(all_readings(book, word, number), wanted)

    def test_one_reading_if_borne(self):
        for book in some_books(9):
            if book.length > 3:
                continue
            words = every_word_up_to(book.letters, min(2 * book.length, 5))
            for number in range(book.length + 1):
                if bears_lost(book, number):
                    for word in words:
                        readings = all_readings(book, word, number)
                        self.assertLessEqual(len(readings), 1)
                        wanted = readings[0] if readings else None
                        self.assertEqual(read_by_book(book, word, number), wanted)
                else:
                    self.assertEqual(caught(read_by_book, book, (), number), ("NotBorne", number))

    def test_examples(self):
        self.assertEqual(read_by_book(EXAMPLE, [0, 0, 1], 1), (1, 0, 0, 1))
        self.assertIsNone(read_by_book(EXAMPLE, [0, 0], 1))
        self.assertEqual(all_readings(EXAMPLE, (), 4), EXAMPLE.words)
        self.assertEqual(all_readings(Book(2, 0, [()]), (), 0), ((),))
        self.assertEqual(all_readings(Book(2, 0, []), (0,), 0), ())

    def test_errors(self):
        for call in (all_readings, read_by_book):
            for thing in NO_SEQUENCES + ([0] * 49,):
                self.assertEqual(caught(call, EXAMPLE, thing, None), ("BadWord", -1))
            self.assertEqual(caught(call, EXAMPLE, [0, 2], 9), ("BadWord", 1))
            self.assertEqual(caught(call, EXAMPLE, [True], 2), ("BadWord", 0))
            for bad in (-1, 5) + NO_NUMBERS:
                self.assertEqual(caught(call, EXAMPLE, [0] * 48, bad), ("BadNumber",))
        self.assertEqual(caught(read_by_book, EXAMPLE, (), 2), ("NotBorne", 2))


if __name__ == "__main__":
    unittest.main()
