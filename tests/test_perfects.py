"""lostplaces.perfects: [3.10] to [3.12]."""

import inspect
import unittest

from lostplaces.books import Book
from lostplaces.judged import bears_lost
from lostplaces.perfects import (
    Uneven, book_of_sums, is_perfect, members_above, perfect_books, shares_of, uneven_word,
)
from lostplaces.runs import count_runs
from lostplaces.sums import SumBook, sum_members
from tests.helper import (
    NO_NUMBERS, NO_SEQUENCES, caught, chance_words, every_book, every_word, made_of_tuples,
    plain_below, plain_is_below, some_books,
)

EXAMPLE = SumBook(4, 5, 0)


def first_of(generator, *arguments):
    """The first item that a generator yields."""
    return next(generator(*arguments))


class Shares(unittest.TestCase):
    """[3.10]."""

    def test_example(self):
        self.assertEqual(list(shares_of(EXAMPLE)), [
            ((0, 0, 0, 0), ((0, 0, 0),)),
            ((0, 1, 1, 0), ((0, 1, 0), (0, 1, 1), (1, 1, 0))),
            ((1, 0, 0, 1), ((0, 0, 1), (1, 0, 0), (1, 0, 1))),
            ((1, 1, 1, 1), ((1, 1, 1),)),
        ])

    def test_shares(self):
        for length in range(7):
            for modulus in range(length + 1, length + 4):
                for rest in range(modulus):
                    book = SumBook(length, modulus, rest)
                    rows = list(shares_of(book))
                    self.assertEqual([row[0] for row in rows], list(sum_members(book)))
                    self.assertTrue(made_of_tuples(tuple(rows)))
                    for member, share in rows:
                        self.assertEqual(share, tuple(sorted(plain_below(member, 1))))
                    words = [word for _, share in rows for word in share]
                    self.assertEqual(len(words), len(set(words)))
                    if book.is_full and length:
                        self.assertEqual(sorted(words), every_word(2, length - 1))
                        runs = sum(count_runs(member) for member, _ in rows)
                        self.assertEqual(runs, 2 ** (length - 1))

    def test_edges(self):
        self.assertEqual(list(shares_of(SumBook(0, 1, 0))), [((), ())])
        self.assertEqual(list(shares_of(SumBook(0, 2, 1))), [])
        self.assertEqual(len(list(shares_of(SumBook(14, 15, 3)))), len(list(sum_members(SumBook(14, 15, 3)))))
        self.assertEqual(caught(first_of, shares_of, SumBook(15, 16, 0)), ("TooMany", 2 ** 15))
        self.assertEqual(caught(first_of, shares_of, SumBook(200, 201, 0)), ("TooMany", 2 ** 200))
        self.assertTrue(inspect.isgeneratorfunction(shares_of))

    def test_book_of_sums(self):
        self.assertEqual(book_of_sums(EXAMPLE), Book(2, 4, list(sum_members(EXAMPLE))))
        for length in range(10):
            for rest in range(length + 1):
                book = book_of_sums(SumBook(length, length + 1, rest))
                self.assertEqual(book.words, tuple(sum_members(SumBook(length, length + 1, rest))))
                self.assertEqual((book.letters, book.length), (2, length))
                if length:
                    self.assertTrue(is_perfect(book))
        self.assertEqual(book_of_sums(SumBook(14, 10 ** 6, 5)).size, 3)
        self.assertEqual(book_of_sums(SumBook(14, 10 ** 6, 10 ** 5)).words, ())

    def test_book_of_sums_errors(self):
        self.assertEqual(caught(book_of_sums, SumBook(15, 10 ** 6, 0)), ("TooMany", 2 ** 15))
        self.assertEqual(caught(book_of_sums, SumBook(10, 11, 0)), ("BadBook", "many"))
        self.assertEqual(len(list(sum_members(SumBook(9, 10, 0)))), 52)
        for book, size in ((SumBook(10, 16, 0), 64), (SumBook(11, 30, 14), 65)):
            self.assertEqual(len(list(sum_members(book))), size)
            self.assertEqual(caught(book_of_sums, book), ("BadBook", "many") if size > 64 else None)


class Above(unittest.TestCase):
    """[3.11]."""

    def test_against_a_plain_search(self):
        for book in some_books(3):
            if book.length:
                uneven = None
                for word in every_word(book.letters, book.length - 1):
                    above = tuple(member for member in book.words if plain_is_below(word, member))
                    self.assertEqual(members_above(book, list(word)), above)
                    if uneven is None and len(above) != 1:
                        uneven = Uneven(word, above)
                self.assertTrue(uneven_word(book) == uneven)
                self.assertIs(is_perfect(book), uneven is None)

    def test_all_small_books(self):
        for letters, length in ((2, 1), (2, 2), (2, 3), (3, 1), (3, 2), (4, 1)):
            for book in every_book(letters, length):
                runs = sum(count_runs(member) for member in book.words)
                whole = letters ** (length - 1)
                self.assertEqual(is_perfect(book), bears_lost(book, 1) and runs == whole)
                if bears_lost(book, 1):
                    self.assertLessEqual(runs, whole)

    def test_uneven_by_none_and_by_several(self):
        self.assertEqual(uneven_word(Book(2, 2, [(0, 1)])), None)
        self.assertTrue(uneven_word(Book(2, 2, [(0, 0)])) == Uneven((1,), ()))
        self.assertTrue(uneven_word(Book(2, 2, [(0, 1), (0, 0)])) == Uneven((0,), ((0, 0), (0, 1))))
        self.assertTrue(uneven_word(Book(2, 1, [])) == Uneven((), ()))
        self.assertTrue(uneven_word(Book(4, 1, [[3], [1]])) == Uneven((), ((1,), (3,))))
        self.assertEqual(uneven_word(Book(4, 1, [[3]])), None)

    def test_long_words(self):
        words = chance_words(5, 4, 24, 64)
        book = Book(4, 24, words)
        self.assertIn(words[7], members_above(book, words[7][:5] + words[7][6:]))
        self.assertEqual(caught(uneven_word, book), ("TooMany", 4 ** 23))
        self.assertTrue(made_of_tuples(members_above(book, words[7][1:])))
        book = Book(2, 11, chance_words(5, 2, 11, 64))
        self.assertIsInstance(uneven_word(book), Uneven)

    def test_too_many_at_its_bound(self):
        for letters, most in ((2, 11), (3, 7), (4, 6)):
            self.assertLessEqual(letters ** (most - 1), 2000)
            book = Book(letters, most, [(0,) * most])
            least = (0,) * (most - 2) + (1,)
            self.assertTrue(uneven_word(book) == Uneven(least, ()))
            self.assertIs(is_perfect(book), False)
            book = Book(letters, most + 1, [])
            for call in (uneven_word, is_perfect):
                self.assertEqual(caught(call, book), ("TooMany", letters ** most))

    def test_errors(self):
        book = Book(3, 3, [(0, 1, 2)])
        for thing in NO_SEQUENCES + ([0] * 25,):
            self.assertEqual(caught(members_above, book, thing), ("BadWord", -1))
        self.assertEqual(caught(members_above, book, [0, 3]), ("BadWord", 1))
        self.assertEqual(caught(members_above, book, [0, 2, 1, True]), ("BadWord", 3))
        for length in (0, 1, 3, 24):
            self.assertEqual(caught(members_above, book, [0] * length), ("NotOneOff",))
        for length in (0, 1):
            self.assertEqual(caught(members_above, Book(2, 0, [()]), [0] * length), ("NotOneOff",))
        for call in (uneven_word, is_perfect):
            self.assertEqual(caught(call, Book(4, 0, [()])), ("BadBook", "length"))

    def test_result(self):
        result = Uneven([0], above="any")
        self.assertEqual((result.word, result.above), ([0], "any"))
        self.assertTrue(result == Uneven([0], "any"))
        for other in (Uneven([1], "any"), Uneven([0], ()), ([0], "any"), None):
            self.assertTrue(result != other)


class PerfectBooks(unittest.TestCase):
    """[3.12]."""

    def test_numbers(self):
        self.assertEqual([len(list(perfect_books(2, length))) for length in range(1, 6)], [2, 3, 4, 7, 6])

    def test_against_all_books(self):
        for letters, length in ((2, 1), (2, 2), (2, 3), (3, 1), (3, 2), (4, 1)):
            wanted = [book for book in every_book(letters, length) if is_perfect(book)]
            found = list(perfect_books(letters, length))
            self.assertEqual([book.words for book in found], sorted(book.words for book in wanted))
            for book in found:
                self.assertIsInstance(book, Book)
                self.assertEqual((book.letters, book.length), (letters, length))

    def test_against_all_sets_of_words_of_four_letters(self):
        words = every_word(2, 4)
        shares = [plain_below(word, 1) for word in words]
        wanted = []
        for number in range(2 ** 16):
            chosen = [at for at in range(16) if number >> at & 1]
            if sum(len(shares[at]) for at in chosen) == 8:
                if len(set().union(*[shares[at] for at in chosen])) == 8:
                    wanted.append(tuple(words[at] for at in chosen))
        self.assertEqual([book.words for book in perfect_books(2, 4)], sorted(wanted))

    def test_larger_ones_are_perfect(self):
        for letters, length, many in ((2, 5, 6), (3, 3, 17), (4, 2, 25)):
            words = [book.words for book in perfect_books(letters, length)]
            self.assertEqual(len(words), many)
            self.assertEqual(words, sorted(set(words)))
            self.assertTrue(all(is_perfect(book) for book in perfect_books(letters, length)))

    def test_sum_books_among_them(self):
        for length, more in ((1, 0), (2, 0), (3, 0), (4, 2), (5, 0)):
            sums = [tuple(sum_members(SumBook(length, length + 1, rest))) for rest in range(length + 1)]
            found = [book.words for book in perfect_books(2, length)]
            self.assertTrue(set(sums) <= set(found))
            self.assertEqual(len(found) - len(sums), more)

    def test_errors(self):
        self.assertTrue(inspect.isgeneratorfunction(perfect_books))
        for bad in (1, 5) + NO_NUMBERS:
            self.assertEqual(caught(first_of, perfect_books, bad, None), ("BadLetters",))
        for bad in (0, -1, 25) + NO_NUMBERS:
            self.assertEqual(caught(first_of, perfect_books, 2, bad), ("BadNumber",))
        for letters, length in ((2, 6), (2, 24), (3, 4), (4, 3), (4, 24)):
            wanted = ("TooMany", letters ** length)
            self.assertEqual(caught(first_of, perfect_books, letters, length), wanted)


if __name__ == "__main__":
    unittest.main()
