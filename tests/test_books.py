"""lostplaces.books: [2.1] to [2.3]."""

import unittest

from lostplaces.books import Book, check_member
from tests.helper import (
    NO_NUMBERS, NO_SEQUENCES, caught, every_word, made_of_tuples, some_books,
)

SIXTY_FOUR = every_word(2, 6)


class Made(unittest.TestCase):
    """[2.1]."""

    def test_attributes(self):
        book = Book(2, 3, [[1, 1, 0], (0, 0, 1), [1, 1, 0]])
        self.assertEqual((book.letters, book.length, book.size), (2, 3, 2))
        self.assertEqual(book.words, ((0, 0, 1), (1, 1, 0)))
        self.assertEqual(list(book), [(0, 0, 1), (1, 1, 0)])
        self.assertEqual(tuple(book), book.words)

    def test_edges(self):
        self.assertEqual(Book(2, 0, []).words, ())
        self.assertEqual(Book(4, 0, [()]).words, ((),))
        self.assertEqual(Book(4, 24, [[3] * 24]).size, 1)
        self.assertEqual(Book(2, 6, SIXTY_FOUR).size, 64)
        self.assertEqual(Book(2, 6, SIXTY_FOUR + SIXTY_FOUR[::-1]).words, tuple(SIXTY_FOUR))
        self.assertEqual(Book(2, 7, every_word(2, 7)[:64]).size, 64)

    def test_errors_in_order(self):
        many = every_word(2, 7)
        for bad in (1, 5, "2") + NO_NUMBERS:
            self.assertEqual(caught(Book, bad, 25, None), ("BadBook", "letters"))
        for bad in (-1, 25, [2]) + NO_NUMBERS:
            self.assertEqual(caught(Book, 2, bad, None), ("BadBook", "length"))
        for bad in NO_SEQUENCES + ([None], [(0, 1), "01"], [(0,)], [(0, 0, 0)], [(0, 2)],
                                   [(0, True)], [()], [[0, 1], {0: 1, 1: 1}], ["01"]):
            self.assertEqual(caught(Book, 2, 2, bad), ("BadBook", "words"))
        self.assertEqual(caught(Book, 2, 7, many + [(0,)]), ("BadBook", "words"))
        self.assertEqual(caught(Book, 2, 7, many), ("BadBook", "many"))
        self.assertEqual(caught(Book, 2, 7, many[:65]), ("BadBook", "many"))

    def test_equal(self):
        book = Book(2, 2, [(0, 1), (1, 1)])
        self.assertTrue(book == Book(2, 2, [[1, 1], [0, 1], [1, 1]]))
        self.assertFalse(book != Book(2, 2, [[1, 1], [0, 1]]))
        self.assertTrue(book != Book(3, 2, [(0, 1), (1, 1)]))
        self.assertTrue(book != Book(2, 2, [(0, 1)]))
        self.assertTrue(Book(2, 2, []) != Book(2, 3, []))
        self.assertFalse(book == book.words)
        self.assertFalse(book == None)  # noqa: E711

    def test_the_book_keeps_copies(self):
        words = [[0, 1], [1, 1]]
        book = Book(2, 2, words)
        words[0][0] = 1
        words.append([0, 0])
        self.assertEqual(book.words, ((0, 1), (1, 1)))
        self.assertEqual(words, [[1, 1], [1, 1], [0, 0]])
        self.assertTrue(made_of_tuples(book.words))


class Members(unittest.TestCase):
    """[2.2]."""

    def test_has(self):
        for book in some_books():
            for word in every_word(book.letters, book.length):
                self.assertIs(book.has(list(word)), word in book.words)
        book = Book(2, 2, [(0, 1)])
        self.assertIs(book.has(()), False)
        self.assertIs(book.has((0, 1, 1)), False)
        self.assertIs(book.has([0] * 24), False)
        self.assertIs(Book(2, 0, [()]).has([]), True)

    def test_errors_of_has(self):
        book = Book(2, 2, [(0, 1)])
        for thing in NO_SEQUENCES + ([0] * 25,):
            self.assertEqual(caught(book.has, thing), ("BadWord", -1))
        self.assertEqual(caught(book.has, (0, 2)), ("BadWord", 1))
        self.assertEqual(caught(book.has, (0, True)), ("BadWord", 1))
        self.assertEqual(caught(book.has, (0, 1, 1, 2)), ("BadWord", 3))
        self.assertIsNone(caught(Book(3, 2, []).has, (0, 2)))

    def test_check_member(self):
        book = Book(2, 3, [(0, 1, 1), (1, 0, 0)])
        self.assertEqual(check_member(book, [0, 1, 1]), (0, 1, 1))
        for thing in NO_SEQUENCES + ([0, 0], (), [0, 1, 1, 0], [0, 2, 1, 0]):
            self.assertEqual(caught(check_member, book, thing), ("BadWord", -1))
        self.assertEqual(caught(check_member, book, [0, 2]), ("BadWord", 1))
        self.assertEqual(caught(check_member, book, [0, 0, 2]), ("BadWord", 2))
        self.assertEqual(caught(check_member, book, [True]), ("BadWord", 0))
        self.assertEqual(caught(check_member, book, [0, 0, 0]), ("NoMember",))


class Others(unittest.TestCase):
    """[2.3]."""

    def test_put_and_struck(self):
        book = Book(2, 2, [(1, 0)])
        self.assertEqual(book.put([0, 1]).words, ((0, 1), (1, 0)))
        self.assertEqual(book.put([1, 0]), book)
        self.assertEqual(book.struck([1, 0]), Book(2, 2, []))
        self.assertEqual(book.words, ((1, 0),))
        for call in (book.put, book.struck):
            for thing in NO_SEQUENCES + ([0], [0, 0, 0]):
                self.assertEqual(caught(call, thing), ("BadWord", -1))
            self.assertEqual(caught(call, [2]), ("BadWord", 0))
            self.assertEqual(caught(call, [0, True]), ("BadWord", 1))
        self.assertEqual(caught(book.struck, [1, 1]), ("NoMember",))

    def test_put_into_a_book_of_64(self):
        book = Book(2, 7, every_word(2, 7)[:64])
        self.assertEqual(book.put(book.words[3]), book)
        self.assertEqual(caught(book.put, [1] * 7), ("BadBook", "many"))
        self.assertEqual(caught(book.put, [1] * 6), ("BadWord", -1))
        self.assertEqual(book.struck(book.words[0]).put([1] * 7).size, 64)

    def test_turned_and_contrary(self):
        book = Book(3, 3, [(0, 0, 1), (2, 1, 0)])
        self.assertEqual(book.turned().words, ((0, 1, 2), (1, 0, 0)))
        self.assertEqual(book.contrary().words, ((0, 1, 2), (2, 2, 1)))
        for book in some_books():
            self.assertEqual(book.turned().turned(), book)
            self.assertEqual(book.contrary().contrary(), book)

    def test_joined(self):
        one, other = Book(2, 2, [(1, 0), (0, 0)]), Book(2, 2, [(0, 1), (0, 0)])
        self.assertEqual(one.joined(other).words, ((0, 0), (0, 1), (1, 0)))
        self.assertEqual(caught(one.joined, Book(3, 2, [])), ("UnlikeBooks",))
        self.assertEqual(caught(one.joined, Book(2, 3, [])), ("UnlikeBooks",))
        words = every_word(2, 7)
        full = Book(2, 7, words[:64])
        self.assertEqual(caught(full.joined, Book(2, 7, words[64:65])), ("BadBook", "many"))
        self.assertEqual(full.joined(Book(2, 7, words[:9])), full)

    def test_stretched(self):
        book = Book(2, 2, [(0, 1), (1, 1)])
        self.assertEqual(book.stretched(1), book)
        self.assertEqual(book.stretched(3).words, ((0, 0, 0, 1, 1, 1), (1,) * 6))
        self.assertEqual(Book(2, 0, [()]).stretched(4), Book(2, 0, [()]))
        self.assertEqual(Book(2, 6, [[0] * 6]).stretched(4).length, 24)
        for bad in (0, 5, -1) + NO_NUMBERS:
            self.assertEqual(caught(book.stretched, bad), ("BadNumber",))
            self.assertEqual(caught(Book(2, 24, []).stretched, bad), ("BadNumber",))
        self.assertEqual(caught(Book(2, 7, []).stretched, 4), ("BadBook", "length"))
        self.assertEqual(caught(Book(2, 13, [[0] * 13]).stretched, 2), ("BadBook", "length"))


if __name__ == "__main__":
    unittest.main()
