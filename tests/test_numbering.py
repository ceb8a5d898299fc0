"""lostplaces.numbering: [4.10], [4.11], and [4.12]."""

import unittest

from lostplaces.numbering import count_from, member_at, number_of
from lostplaces.sizes import size_of
from lostplaces.sums import SumBook
from tests.helper import (
    NO_NUMBERS, NO_SEQUENCES, caught, chance_words, every_word, every_word_up_to, made_of_tuples,
    plain_sum,
)


def plain_members(book):
    """The members of a sum book, ascending, by looking at all words."""
    return [word for word in every_word(2, book.length)
            if plain_sum(word) % book.modulus == book.rest]


class Numbers(unittest.TestCase):
    def test_example(self):
        book = SumBook(4, 5, 0)
        self.assertEqual([member_at(book, number) for number in range(4)],
                         [(0, 0, 0, 0), (0, 1, 1, 0), (1, 0, 0, 1), (1, 1, 1, 1)])
        self.assertEqual(count_from(book, [0]), 2)
        self.assertEqual(number_of(book, [1, 0, 0, 1]), 2)

    def test_against_all_members(self):
        for length in range(7):
            for modulus in (length + 1, length + 2, length + 5, 40, 1000):
                for rest in {0, 1, length, modulus // 2, modulus - 1} & set(range(modulus)):
                    book = SumBook(length, modulus, rest)
                    members = plain_members(book)
                    for number, member in enumerate(members):
                        self.assertEqual(member_at(book, number), member)
                        self.assertEqual(number_of(book, list(member)), number)
                    self.assertEqual(caught(member_at, book, len(members)), ("NoNumber",))
                    for head in every_word_up_to(2, length):
                        wanted = sum(member[:len(head)] == head for member in members)
                        self.assertEqual(count_from(book, list(head)), wanted)

    def test_the_longest_books(self):
        for modulus in (61, 62, 1000):
            for word in chance_words(modulus, 2, 60, 3) + [(0,) * 60, (1,) * 60]:
                book = SumBook.holding(word, modulus)
                number = number_of(book, word)
                self.assertEqual(member_at(book, number), word)
                wanted = sum(count_from(book, word[:at] + (0,)) for at in range(60) if word[at])
                self.assertEqual(number, wanted)
        book = SumBook(60, 61, 7)
        size = count_from(book, ())
        self.assertEqual(size, size_of(60, 7))
        self.assertEqual(number_of(book, member_at(book, size - 1)), size - 1)
        self.assertEqual(number_of(book, member_at(book, 0)), 0)
        self.assertLess(member_at(book, size // 2), member_at(book, size // 2 + 1))
        self.assertEqual(caught(member_at, book, size), ("NoNumber",))

    def test_length_0(self):
        self.assertEqual(member_at(SumBook(0, 1, 0), 0), ())
        self.assertEqual(number_of(SumBook(0, 1, 0), []), 0)
        self.assertEqual(count_from(SumBook(0, 1, 0), []), 1)
        self.assertEqual(count_from(SumBook(0, 3, 2), []), 0)
        self.assertEqual(caught(member_at, SumBook(0, 3, 2), 0), ("NoNumber",))
        self.assertEqual(caught(number_of, SumBook(0, 3, 2), []), ("NoMember",))

    def test_tuples_return_and_lists_stay(self):
        word = [1, 0, 0, 1]
        number_of(SumBook(4, 5, 0), word)
        self.assertEqual(word, [1, 0, 0, 1])
        self.assertTrue(made_of_tuples(member_at(SumBook(4, 5, 0), 1)))


class Errors(unittest.TestCase):
    def test_books(self):
        for call in (count_from, member_at, number_of):
            self.assertEqual(caught(call, SumBook(61, 2000, 0), None), ("BadNumber",))
            self.assertEqual(caught(call, SumBook(200, 10 ** 6, 0), None), ("BadNumber",))
            self.assertEqual(caught(call, SumBook(60, 1001, 0), None), ("BadModulus",))
            self.assertEqual(caught(call, SumBook(0, 10 ** 6, 0), None), ("BadModulus",))

    def test_numbers(self):
        for bad in (-1, 4) + NO_NUMBERS:
            self.assertEqual(caught(member_at, SumBook(4, 5, 0), bad), ("NoNumber",))
        self.assertEqual(caught(member_at, SumBook(4, 100, 90), 0), ("NoNumber",))

    def test_words(self):
        book = SumBook(4, 5, 0)
        for call in (count_from, number_of):
            for thing in NO_SEQUENCES + ([0] * 5, [2] * 5):
                self.assertEqual(caught(call, book, thing), ("BadWord", -1))
            self.assertEqual(caught(call, book, [0, 2]), ("BadWord", 1))
            self.assertEqual(caught(call, book, [0, 1, 1, False]), ("BadWord", 3))
        for word in ([], [0, 0, 0], [0, 0, 0, 1]):
            self.assertEqual(caught(number_of, book, word), ("NoMember",))


if __name__ == "__main__":
    unittest.main()
