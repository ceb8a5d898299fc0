"""lostplaces.bests: [10.4], [10.5]."""

import unittest

from lostplaces.bests import Best, best_books, clash_ties, filled_book
from lostplaces.books import Book
from lostplaces.judged import borne_of
from lostplaces.sums import SumBook, sum_members
from lostplaces.words import word_of_text
from tests.helper import (
    NO_NUMBERS, caught, chance_words, every_book, every_word, made_of_tuples, plain_below,
    plain_common,
)

SMALL = [(2, length) for length in range(1, 6)] + [(3, 1), (3, 2), (3, 3), (4, 1), (4, 2)]


def plain_ties(letters, length, lost):
    """All couples with a common word, by comparing the words below."""
    words = every_word(letters, length)
    below = {word: plain_below(word, lost) for word in words}
    return [(one, other) for one in words for other in words
            if one < other and below[one] & below[other]]


def all_bearing(letters, length, lost):
    """The tuples of members of all books that bear so many letters lost."""
    words = every_word(letters, length)
    ties = set(plain_ties(letters, length, lost))
    found = [()]
    for word in words:
        found += [book + (word,) for book in found
                  if not any((other, word) in ties for other in book)]
    return found


class Ties(unittest.TestCase):
    """[10.4]."""

    def test_against_the_words_below(self):
        for letters, length in SMALL:
            for lost in range(1, length + 1):
                ties = clash_ties(letters, length, lost)
                self.assertEqual(ties, tuple(plain_ties(letters, length, lost)))
                self.assertTrue(made_of_tuples(ties))

    def test_example_of_one_letter(self):
        self.assertEqual(clash_ties(2, 1, 1), (((0,), (1,)),))
        self.assertEqual(clash_ties(2, 2, 1), (
            ((0, 0), (0, 1)), ((0, 0), (1, 0)), ((0, 1), (1, 0)), ((0, 1), (1, 1)),
            ((1, 0), (1, 1))))

    def test_errors_in_order(self):
        for call in (clash_ties, best_books):
            for bad in (1, 5, 0) + NO_NUMBERS:
                self.assertEqual(caught(call, bad, None, None), ("BadLetters",))
            for letters, most in ((2, 5), (3, 3), (4, 2)):
                self.assertIsNone(caught(call, letters, most, most))
                for bad in (0, -1, most + 1, 24, 10 ** 50) + NO_NUMBERS:
                    self.assertEqual(caught(call, letters, bad, 1), ("BadNumber",))
                for bad in (0, -1, most + 1) + NO_NUMBERS:
                    self.assertEqual(caught(call, letters, most, bad), ("BadNumber",))


class BestBooks(unittest.TestCase):
    """[10.4]."""

    def test_against_all_books(self):
        for letters, length in SMALL:
            for lost in range(1, length + 1):
                books = all_bearing(letters, length, lost)
                number = max(map(len, books))
                first = min(book for book in books if len(book) == number)
                best = best_books(letters, length, lost)
                self.assertEqual(best, Best(number, Book(letters, length, first)))
                self.assertGreaterEqual(borne_of(best.book), min(lost, length))

    def test_numbers(self):
        self.assertEqual([best_books(2, length, 1).number for length in range(1, 6)],
                         [1, 2, 2, 4, 6])
        # Of the same size as the full sum book of rest 0, but ahead of it.
        members = [word_of_text(2, text) for text in "00000 00011 01101 10010 11100 11111".split()]
        self.assertEqual(best_books(2, 5, 1).book, Book(2, 5, members))
        self.assertEqual(len(list(sum_members(SumBook(5, 6, 0)))), 6)
        self.assertEqual(best_books(4, 2, 1).number, 4)
        self.assertEqual(best_books(3, 3, 3), Best(1, Book(3, 3, [[0, 0, 0]])))


class Filled(unittest.TestCase):
    """[10.5]."""

    def plain_filled(self, book, number):
        """The book filled word by word, with each common word searched."""
        members = list(book.words)
        for word in every_word(book.letters, book.length):
            common = [plain_common(word, member) for member in members]
            if all(length < book.length - number for length in common):
                members.append(word)
        return Book(book.letters, book.length, members)

    def test_against_plain_filling(self):
        books = every_book(2, 2) + every_book(3, 1) + every_book(2, 3)[::7]
        for letters, length in ((2, 4), (2, 5), (3, 3), (4, 2)):
            books += [Book(letters, length, chance_words(seed, letters, length, 2))
                      for seed in range(4)]
        for book in books:
            for number in range(1, book.length + 1):
                if borne_of(book) < number:
                    self.assertEqual(caught(filled_book, book, number), ("NotBorne", number))
                    continue
                filled = filled_book(book, number)
                self.assertEqual(filled, self.plain_filled(book, number))
                self.assertTrue(set(book.words) <= set(filled.words))
                self.assertGreaterEqual(borne_of(filled), number)
                for word in every_word(book.letters, book.length):
                    if word not in filled.words:
                        self.assertLess(borne_of(filled.put(word)), number)

    def test_longest(self):
        filled = filled_book(Book(2, 8, []), 1)
        self.assertEqual((borne_of(filled), filled.words[0]), (1, (0,) * 8))
        self.assertGreaterEqual(filled.size, 20)
        self.assertEqual(filled_book(filled, 1), filled)
        self.assertEqual(filled_book(Book(4, 4, [[3, 3, 3, 3]]), 4), Book(4, 4, [[3] * 4]))
        self.assertGreaterEqual(filled_book(Book(4, 4, []), 1).size, 16)

    def test_errors_in_order(self):
        clash = Book(2, 9, [[0] * 9, [0] * 8 + [1]])
        for bad in (0, -1, 10) + NO_NUMBERS:
            self.assertEqual(caught(filled_book, clash, bad), ("BadNumber",))
        self.assertEqual(caught(filled_book, clash, 1), ("NotBorne", 1))
        self.assertEqual(caught(filled_book, Book(2, 9, []), 1), ("TooMany", 512))
        self.assertEqual(caught(filled_book, Book(4, 24, []), 24), ("TooMany", 4 ** 24))
        self.assertEqual(caught(filled_book, Book(3, 6, []), 2), ("TooMany", 729))
        for number in (0, 1, None):
            self.assertEqual(caught(filled_book, Book(2, 0, [()]), number), ("BadNumber",))


if __name__ == "__main__":
    unittest.main()
