"""lostplaces.manyletters: [5.8] to [5.12], and [5.13]."""

import inspect
import unittest

from lostplaces.manyletters import (
    ManyBook, couples_that_read, fullest_book, lost_letter, many_members, many_rings,
    read_many_lost, read_many_put,
)
from lostplaces.manysizes import many_size_of, size_rows
from lostplaces.rings import rings_for
from lostplaces.runs import count_runs
from tests.helper import (
    NO_NUMBERS, NO_SEQUENCES, caught, chance_words, every_word, made_of_tuples, plain_above,
    plain_below,
)

SMALL = ((2, 1), (2, 2), (2, 3), (2, 4), (2, 5), (3, 1), (3, 2), (3, 3), (4, 1), (4, 2), (4, 3))
EXAMPLE = ManyBook(3, 3, 0, 1)
LONG = [(letters, word) for letters in (2, 3, 4)
        for word in chance_words(letters, letters, 60, 3) + [(0,) * 60, (letters - 1,) * 60]]


def books_of(letters, length):
    """All many books of these letters and this length."""
    return [ManyBook(letters, length, rest, total)
            for rest in range(length) for total in range(letters)]


def plain_couple(letters, word):
    """The rest and the total of a word by their definition."""
    rises = sum(place for place in range(1, len(word)) if word[place] >= word[place - 1])
    return (rises % len(word), sum(word) % letters)


def plain_members(book):
    """The members of a many book, ascending, by looking at all words."""
    return [word for word in every_word(book.letters, book.length)
            if plain_couple(book.letters, word) == (book.rest, book.total)]


class Books(unittest.TestCase):
    """[5.8]."""

    def test_example(self):
        self.assertEqual(list(many_members(EXAMPLE)), [(0, 0, 1), (0, 2, 2), (1, 1, 2)])

    def test_attributes(self):
        book = ManyBook(letters=3, length=7, rest=6, total=2)
        self.assertEqual((book.letters, book.length, book.rest, book.total), (3, 7, 6, 2))
        self.assertEqual(book.size, many_size_of(3, 7, 6, 2))
        self.assertEqual(ManyBook(4, 60, 59, 3).size, many_size_of(4, 60, 59, 3))

    def test_equal(self):
        self.assertTrue(EXAMPLE == ManyBook(3, 3, 0, 1))
        for other in (ManyBook(4, 3, 0, 1), ManyBook(3, 4, 0, 1), ManyBook(3, 3, 1, 1),
                      ManyBook(3, 3, 0, 2), (3, 3, 0, 1), None):
            self.assertTrue(EXAMPLE != other)

    def test_members_and_has(self):
        self.assertTrue(inspect.isgeneratorfunction(many_members))
        for letters, length in SMALL:
            for book in books_of(letters, length):
                members = plain_members(book)
                self.assertEqual(list(many_members(book)), members)
                self.assertTrue(made_of_tuples(tuple(many_members(book))))
                self.assertEqual(book.size, len(members))
                for word in every_word(letters, length):
                    self.assertIs(book.has(list(word)), word in members)
                    self.assertTrue(ManyBook.holding(letters, list(word)).has(word))
        for length in (0, 2, 4, 61):
            self.assertIs(EXAMPLE.has([0] * length), False)

    def test_mirrored(self):
        for letters, length in SMALL:
            for book in books_of(letters, length):
                wanted = sorted(tuple(letters - 1 - letter for letter in word[::-1])
                                for word in plain_members(book))
                self.assertEqual(list(many_members(book.mirrored())), wanted)
        for letters, word in LONG:
            mirror = tuple(letters - 1 - letter for letter in word[::-1])
            book = ManyBook.holding(letters, word)
            self.assertTrue(book.mirrored() == ManyBook.holding(letters, mirror))

    def test_holding(self):
        for letters, word in LONG:
            book = ManyBook.holding(letters, list(word))
            self.assertEqual((book.letters, book.length), (letters, 60))
            self.assertEqual((book.rest, book.total), plain_couple(letters, word))
        for bad in (1, 5) + NO_NUMBERS:
            self.assertEqual(caught(ManyBook.holding, bad, None), ("BadLetters",))
        for thing in NO_SEQUENCES + ([0] * 62,):
            self.assertEqual(caught(ManyBook.holding, 2, thing), ("BadWord", -1))
        self.assertEqual(caught(ManyBook.holding, 3, [2] * 60 + [3]), ("BadWord", 60))
        for word in ([], [0] * 61):
            self.assertEqual(caught(ManyBook.holding, 2, word), ("BadNumber",))

    def test_errors_in_order(self):
        for bad in (1, 5) + NO_NUMBERS:
            self.assertEqual(caught(ManyBook, bad, None, None, None), ("BadLetters",))
        for bad in (0, -1, 61) + NO_NUMBERS:
            self.assertEqual(caught(ManyBook, 2, bad, None, None), ("BadNumber",))
        for bad in (-1, 5) + NO_NUMBERS:
            self.assertEqual(caught(ManyBook, 2, 5, bad, None), ("BadRest",))
        for bad in (-1, 3) + NO_NUMBERS:
            self.assertEqual(caught(ManyBook, 3, 5, 4, bad), ("BadTotal",))

    def test_words_of_has(self):
        for thing in NO_SEQUENCES + ([0] * 62,):
            self.assertEqual(caught(EXAMPLE.has, thing), ("BadWord", -1))
        self.assertEqual(caught(EXAMPLE.has, [0, 3]), ("BadWord", 1))
        self.assertEqual(caught(EXAMPLE.has, [False]), ("BadWord", 0))

    def test_too_many(self):
        for letters, most in ((2, 12), (3, 7), (4, 6)):
            book = ManyBook(letters, most, 1, 1)
            self.assertEqual(len(list(many_members(book))), book.size)
            for length in (most + 1, 60):
                book = ManyBook(letters, length, 0, 0)
                wanted = ("TooMany", letters ** length)
                self.assertEqual(caught(next, many_members(book)), wanted)
                self.assertEqual(caught(many_rings, book), wanted)


class Reading(unittest.TestCase):
    """[5.9]."""

    def test_example(self):
        self.assertEqual(lost_letter(EXAMPLE, (1, 0)), 0)
        self.assertIsNone(read_many_lost(EXAMPLE, [1, 0]))
        self.assertEqual([couple[0] for couple in couples_that_read(3, 3, [1, 0]) if couple[1] == 1], [1, 2])

    def test_against_a_plain_search(self):
        for letters, length in SMALL:
            for book in books_of(letters, length):
                members = plain_members(book)
                for word in every_word(letters, length - 1):
                    wanted = [member for member in members if word in plain_below(member, 1)]
                    self.assertLessEqual(len(wanted), 1)
                    found = read_many_lost(book, list(word))
                    self.assertEqual(found, wanted[0] if wanted else None)
                    letter = lost_letter(book, list(word))
                    self.assertEqual((sum(word) + letter) % letters, book.total)
                    self.assertIn(letter, range(letters))
                    if found:
                        self.assertTrue(made_of_tuples(found))
                        self.assertEqual(found.count(letter), word.count(letter) + 1)
                for word in every_word(letters, length + 1):
                    wanted = [member for member in members if member in plain_below(word, 1)]
                    self.assertLessEqual(len(wanted), 1)
                    self.assertEqual(read_many_put(book, list(word)), wanted[0] if wanted else None)

    def test_long_words(self):
        for letters, word in LONG:
            book = ManyBook.holding(letters, word)
            for at in (0, 1, 29, 59):
                short = word[:at] + word[at + 1:]
                self.assertEqual(lost_letter(book, short), word[at])
                self.assertEqual(read_many_lost(book, short), word)
                for letter in range(letters):
                    self.assertEqual(read_many_put(book, word[:at] + (letter,) + word[at:]), word)

    def test_errors(self):
        for call, length in ((lost_letter, 2), (read_many_lost, 2), (read_many_put, 4)):
            for thing in NO_SEQUENCES + ([0] * 62,):
                self.assertEqual(caught(call, EXAMPLE, thing), ("BadWord", -1))
            self.assertEqual(caught(call, EXAMPLE, [0, 2, 1, 2, 3]), ("BadWord", 4))
            self.assertEqual(caught(call, EXAMPLE, [True]), ("BadWord", 0))
            for other in (0, 1, 2, 3, 4, 5, 61):
                wanted = None if other == length else ("NotOneOff",)
                self.assertEqual(caught(call, EXAMPLE, [0] * other), wanted)


class Couples(unittest.TestCase):
    """[5.10]."""

    def test_against_all_books(self):
        for letters, length in SMALL:
            books = books_of(letters, length)
            for word in every_word(letters, length - 1):
                above = {plain_couple(letters, long) for long in plain_above(letters, word, 1)}
                found = couples_that_read(letters, length, list(word))
                self.assertEqual(found, tuple(sorted(above)))
                wanted = [(book.rest, book.total) for book in books
                          if read_many_lost(book, word) is not None]
                self.assertEqual(list(found), wanted)
                for total in range(letters):
                    lost = (total - sum(word)) % letters
                    rests = [couple for couple in found if couple[1] == total]
                    self.assertEqual(len(rests), length - word.count(lost))
            for word in every_word(letters, length + 1):
                found = couples_that_read(letters, length, list(word))
                wanted = [(book.rest, book.total) for book in books
                          if read_many_put(book, word) is not None]
                self.assertEqual(list(found), wanted)
                self.assertTrue(made_of_tuples(found))
                self.assertEqual(len(found), count_runs(word))

    def test_long_words(self):
        for letters, word in LONG:
            found = couples_that_read(letters, 60, word[1:])
            self.assertEqual(list(found), sorted(set(found)))
            self.assertEqual(len(found), 60 * letters - 59)
            self.assertIn(plain_couple(letters, word), found)
            longer = (word[0],) + word
            runs = 1 + sum(longer[at] != longer[at + 1] for at in range(60))
            self.assertEqual(len(couples_that_read(letters, 60, longer)), runs)

    def test_errors(self):
        for bad in (1, 5) + NO_NUMBERS:
            self.assertEqual(caught(couples_that_read, bad, None, None), ("BadLetters",))
        for bad in (0, -1, 61) + NO_NUMBERS:
            self.assertEqual(caught(couples_that_read, 2, bad, None), ("BadNumber",))
        for thing in NO_SEQUENCES + ([0] * 62,):
            self.assertEqual(caught(couples_that_read, 2, 60, thing), ("BadWord", -1))
        self.assertEqual(caught(couples_that_read, 2, 4, [0, 2]), ("BadWord", 1))
        for length in (0, 2, 4, 6, 61):
            self.assertEqual(caught(couples_that_read, 2, 4, [0] * length), ("NotOneOff",))


class Sizes(unittest.TestCase):
    """[5.11] and [5.12]."""

    def test_fullest(self):
        for letters in (2, 3, 4):
            for length in range(1, 61):
                rows = size_rows(letters, length)
                most = max(max(row) for row in rows)
                first = [(rest, total) for rest in range(length) for total in range(letters)
                         if rows[rest][total] == most][0]
                book = fullest_book(letters, length)
                self.assertTrue(book == ManyBook(letters, length, *first))
                self.assertEqual(first, (0 if length % 2 else length // 2, 0))

    def test_fullest_errors(self):
        for bad in (1, 5) + NO_NUMBERS:
            self.assertEqual(caught(fullest_book, bad, None), ("BadLetters",))
        for bad in (0, -1, 61) + NO_NUMBERS:
            self.assertEqual(caught(fullest_book, 2, bad), ("BadNumber",))

    def test_rings(self):
        self.assertEqual(many_rings(EXAMPLE), ((0, 0, 1), (0, 2, 2), (1, 1, 2)))
        for letters, length in SMALL + ((2, 6), (2, 8), (3, 4), (3, 6), (4, 4)):
            for book in books_of(letters, length):
                wanted = set()
                for word in every_word(letters, length):
                    rotations = [word[k:] + word[:k] for k in range(length)]
                    lacking = length * (length - 1) // 2 - book.rest
                    if sum(word) % letters == book.total and lacking % rotations.count(word) == 0:
                        wanted.add(min(rotations))
                found = many_rings(book)
                self.assertEqual(found, tuple(sorted(wanted)))
                self.assertEqual(len(found), book.size)
                self.assertTrue(made_of_tuples(found))

    def test_odd_rings(self):
        for length in range(1, 11):
            for rest in range(length):
                lacking = (length * (length - 1) // 2 - rest) % length
                found = many_rings(ManyBook(2, length, rest, 1))
                self.assertEqual(found, rings_for(length - 1, lacking))


if __name__ == "__main__":
    unittest.main()
