"""lostplaces.readers: [3.7] to [3.9]."""

import unittest

from lostplaces.readers import (
    near_members, place_of_loss, place_of_put, read_any, read_lost, read_put, unread_word,
)
from lostplaces.runs import count_runs
from lostplaces.sums import SumBook, lifted_word, sum_members
from tests.helper import (
    NO_SEQUENCES, caught, chance_words, every_word, made_of_tuples, plain_is_below,
)


def small_books(most=5):
    """All sum books of small lengths with full and greater moduli."""
    return [SumBook(length, modulus, rest) for length in range(most + 1)
            for modulus in range(length + 1, length + 5) for rest in range(modulus)]


class Reading(unittest.TestCase):
    """[3.7]."""

    def test_example(self):
        book = SumBook(4, 5, 0)
        self.assertEqual(list(sum_members(book)),
                         [(0, 0, 0, 0), (0, 1, 1, 0), (1, 0, 0, 1), (1, 1, 1, 1)])
        self.assertEqual(read_lost(book, [0, 0, 1]), (1, 0, 0, 1))
        self.assertEqual(place_of_loss(book, [0, 0, 1]), (1, 1))
        self.assertIsNone(read_lost(SumBook(3, 6, 4), (0, 0)))

    def test_against_a_plain_search(self):
        for book in small_books():
            members = list(sum_members(book))
            if book.length > 0:
                for word in every_word(2, book.length - 1):
                    above = [member for member in members if plain_is_below(word, member)]
                    self.assertLessEqual(len(above), 1)
                    wanted = above[0] if above else None
                    self.assertEqual(read_lost(book, list(word)), wanted)
                    self.assertEqual(read_any(book, word), wanted)
                    if book.is_full:
                        self.assertIsNotNone(wanted)
            for word in every_word(2, book.length + 1):
                below = [member for member in members if plain_is_below(member, word)]
                self.assertLessEqual(len(below), 1)
                wanted = below[0] if below else None
                self.assertEqual(read_put(book, list(word)), wanted)
                self.assertEqual(read_any(book, word), wanted)
            for word in every_word(2, book.length):
                self.assertEqual(read_any(book, list(word)), word if word in members else None)

    def test_long_books(self):
        for modulus in (201, 202, 10 ** 6):
            for word in chance_words(modulus, 2, 200, 3) + [(0,) * 200, (1,) * 200]:
                book = SumBook.holding(word, modulus)
                for at in (0, 77, 199):
                    self.assertEqual(read_lost(book, word[:at] + word[at + 1:]), word)
                    self.assertEqual(read_any(book, word[:at] + word[at + 1:]), word)
                for amount in (0, 1, 100, 200, 201):
                    self.assertEqual(read_put(book, lifted_word(word, amount)), word)

    def test_length_0(self):
        book = SumBook(0, 1, 0)
        self.assertEqual(caught(read_lost, book, ()), ("NotOneOff",))
        self.assertEqual(read_put(book, (0,)), ())
        self.assertEqual(read_put(book, (1,)), ())
        self.assertEqual(read_any(book, ()), ())
        self.assertIsNone(read_any(SumBook(0, 3, 2), ()))
        self.assertIsNone(read_put(SumBook(0, 3, 1), (1,)))
        self.assertEqual(read_put(SumBook(0, 3, 0), (1,)), ())

    def test_errors(self):
        book = SumBook(4, 6, 0)
        for call, lengths in ((read_lost, (3,)), (read_put, (5,)), (read_any, (3, 4, 5)),
                              (place_of_loss, (3,)), (place_of_put, (5,))):
            for thing in NO_SEQUENCES + ([0] * 202,):
                self.assertEqual(caught(call, book, thing), ("BadWord", -1))
            self.assertEqual(caught(call, book, [0, 2]), ("BadWord", 1))
            self.assertEqual(caught(call, book, [0, 0, 0, 0, True]), ("BadWord", 4))
            for length in (0, 1, 2, 3, 4, 5, 6, 7, 201):
                wanted = None if length in lengths else ("NotOneOff",)
                self.assertEqual(caught(call, book, [0] * length), wanted)


class Unread(unittest.TestCase):
    """[3.8]."""

    def test_against_a_plain_search(self):
        for book in small_books(6):
            if book.length == 0:
                self.assertEqual(caught(unread_word, book), ("BadNumber",))
                continue
            members = list(sum_members(book))
            unread = [word for word in every_word(2, book.length - 1)
                      if not any(plain_is_below(word, member) for member in members)]
            word = unread_word(book)
            if word is None:
                self.assertEqual(unread, [])
            else:
                self.assertIn(word, unread)

    def test_none_exactly_as_told(self):
        for book in small_books(7):
            if book.length:
                low = book.length * (book.length - 1) // 2
                short = book.length <= 3 and low <= book.rest <= book.length
                self.assertEqual(unread_word(book) is None, book.is_full or short)

    def test_long_books(self):
        for length, modulus, rest in ((200, 202, 0), (200, 202, 200), (200, 202, 201), (200, 500, 499),
                                      (200, 10 ** 6, 10 ** 6 - 1), (199, 300, 20)):
            book = SumBook(length, modulus, rest)
            word = unread_word(book)
            self.assertEqual(len(word), length - 1)
            self.assertIsNone(read_lost(book, word))
            self.assertTrue(made_of_tuples(word))
        self.assertIsNone(unread_word(SumBook(200, 201, 5)))


class Places(unittest.TestCase):
    """[3.9]."""

    def test_losses(self):
        for book in small_books():
            if book.length == 0:
                self.assertEqual(caught(place_of_loss, book, ()), ("NotOneOff",))
                continue
            for word in every_word(2, book.length - 1):
                member = read_lost(book, word)
                found = place_of_loss(book, list(word))
                if member is None:
                    self.assertIsNone(found)
                else:
                    self.assertEqual(found, places_between(member, word))

    def test_puts(self):
        for book in small_books():
            for word in every_word(2, book.length + 1):
                member = read_put(book, word)
                found = place_of_put(book, list(word))
                if member is None:
                    self.assertIsNone(found)
                else:
                    self.assertEqual(found, places_between(word, member))

    def test_long(self):
        book = SumBook(200, 201, 0)
        self.assertEqual(place_of_loss(book, [0] * 199), (1, 200))
        self.assertEqual(place_of_put(book, [0] * 201), (1, 201))
        self.assertEqual(place_of_put(book, [0] * 150 + [1] + [0] * 50), (151, 151))

    def test_near_members(self):
        for book in small_books():
            members = list(sum_members(book))
            for word in every_word(2, book.length):
                wanted = tuple(member for member in members if book.length and comes_near(member, word))
                found = near_members(book, list(word))
                self.assertEqual(found, wanted)
                self.assertTrue(made_of_tuples(found))
                self.assertLessEqual(len(found), count_runs(word))
                if book.length:
                    self.assertEqual(word in members, found == (word,))
                    self.assertTrue(found or not book.is_full)

    def test_near_members_of_long_words(self):
        word = (0, 1) * 100
        book = SumBook(200, 201, 17)
        found = near_members(book, word)
        self.assertEqual(list(found), sorted(set(found)))
        self.assertTrue(1 <= len(found) <= 200)
        self.assertTrue(all(book.has(member) for member in found))
        self.assertEqual(near_members(SumBook.holding(word, 201), word), (word,))

    def test_near_members_errors(self):
        book = SumBook(4, 6, 0)
        self.assertEqual(near_members(SumBook(0, 1, 0), ()), ())
        for thing in NO_SEQUENCES + ([0] * 201,):
            self.assertEqual(caught(near_members, book, thing), ("BadWord", -1))
        self.assertEqual(caught(near_members, book, [0, 2]), ("BadWord", 1))
        for length in (0, 3, 5, 200):
            self.assertEqual(caught(near_members, book, [0] * length), ("NotOneOff",))
        self.assertEqual(caught(near_members, SumBook(0, 1, 0), (1,)), ("NotOneOff",))


def places_between(long, short):
    """The first and last of the places whose loss leads from one word to the other."""
    places = [at + 1 for at in range(len(long)) if long[:at] + long[at + 1:] == short]
    return (places[0], places[-1])


def comes_near(member, word):
    """Whether the word comes of the member by one letter lost and one put in."""
    lost = [member[:at] + member[at + 1:] for at in range(len(member))]
    return any(plain_is_below(short, word) for short in lost)


if __name__ == "__main__":
    unittest.main()
