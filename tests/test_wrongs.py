"""lostplaces.wrongs: [5.1] to [5.6], and [5.13]."""

import inspect
import unittest

from lostplaces.runs import count_runs
from lostplaces.sizes import size_of
from lostplaces.sums import SumBook, lifted_word, sum_members
from lostplaces.wrongs import (
    Read, WrongBook, checked_word, head_book, read_wrong, rests_that_read, wrong_clash,
    wrong_members, wrong_place,
)
from tests.helper import (
    NO_NUMBERS, NO_SEQUENCES, caught, chance_words, every_word, made_of_tuples, plain_above,
    plain_below, plain_sum,
)

BOOKS = [WrongBook(length, rest) for length in range(1, 7) for rest in range(2 * length)]
LONG = chance_words(9, 2, 60, 4) + [(0,) * 60, (1,) * 60, (0, 1) * 30]


def plain_members(book):
    """The members of a wrong book, ascending, by looking at all words."""
    return [word for word in every_word(2, book.length)
            if plain_sum(word) % (2 * book.length) == book.rest]


def plain_readings(book, word):
    """All readings of a word, by what can become of each member."""
    found = []
    for member in plain_members(book):
        if word == member:
            found.append(("none", member))
        if len(word) == len(member) and sum(x != y for x, y in zip(word, member)) == 1:
            found.append(("wrong", member))
        if word in plain_below(member, 1):
            found.append(("lost", member))
        if word in plain_above(2, member, 1):
            found.append(("put", member))
    return found


class Books(unittest.TestCase):
    """[5.2]."""

    def test_example(self):
        self.assertEqual(list(wrong_members(WrongBook(4, 5))), [(0, 1, 1, 0), (1, 0, 0, 1)])
        self.assertEqual(list(sum_members(head_book(WrongBook(4, 5)))), [(0, 1, 1), (1, 0, 0)])
        self.assertTrue(head_book(WrongBook(4, 5)) == SumBook(3, 4, 1))

    def test_attributes(self):
        book = WrongBook(length=4, rest=5)
        self.assertEqual((book.length, book.rest, book.modulus, book.size), (4, 5, 8, 2))
        book = WrongBook(60, 119)
        self.assertEqual((book.modulus, book.size), (120, size_of(59, 59)))
        for book in BOOKS:
            self.assertEqual(book.size, len(plain_members(book)))

    def test_equal(self):
        self.assertTrue(WrongBook(4, 5) == WrongBook(4, 5))
        for other in (WrongBook(4, 6), WrongBook(5, 5), SumBook(4, 8, 5), (4, 5), None):
            self.assertTrue(WrongBook(4, 5) != other)

    def test_members_and_has(self):
        self.assertTrue(inspect.isgeneratorfunction(wrong_members))
        for book in BOOKS:
            members = plain_members(book)
            self.assertEqual(list(wrong_members(book)), members)
            self.assertTrue(made_of_tuples(tuple(wrong_members(book))))
            for word in every_word(2, book.length):
                self.assertIs(book.has(list(word)), word in members)
                self.assertTrue(WrongBook.holding(list(word)).has(word))
        book = WrongBook(14, 27)
        self.assertEqual(list(wrong_members(book)), plain_members(book))
        for length in (0, 3, 5, 61):
            self.assertIs(WrongBook(4, 0).has([0] * length), False)

    def test_words_of_has(self):
        book = WrongBook(4, 5)
        for thing in NO_SEQUENCES + ([0] * 62,):
            self.assertEqual(caught(book.has, thing), ("BadWord", -1))
        self.assertEqual(caught(book.has, [0, 2]), ("BadWord", 1))
        self.assertEqual(caught(book.has, [0, 1, 1, True]), ("BadWord", 3))

    def test_contrary(self):
        for book in BOOKS:
            turned = sorted(tuple(1 - letter for letter in word) for word in plain_members(book))
            self.assertEqual(list(wrong_members(book.contrary())), turned)
            self.assertTrue(book.contrary().contrary() == book)
        self.assertTrue(WrongBook(4, 5).contrary() == WrongBook(4, 5))
        self.assertTrue(WrongBook(60, 0).contrary() == WrongBook(60, 1830 % 120))

    def test_holding(self):
        for word in LONG:
            book = WrongBook.holding(list(word))
            self.assertEqual((book.length, book.rest), (60, plain_sum(word) % 120))
        for thing in NO_SEQUENCES + ([0] * 62,):
            self.assertEqual(caught(WrongBook.holding, thing), ("BadWord", -1))
        self.assertEqual(caught(WrongBook.holding, [0] * 60 + [2]), ("BadWord", 60))
        self.assertEqual(caught(WrongBook.holding, []), ("BadNumber",))
        self.assertEqual(caught(WrongBook.holding, [0] * 61), ("BadNumber",))

    def test_errors(self):
        for bad in (0, -1, 61) + NO_NUMBERS:
            self.assertEqual(caught(WrongBook, bad, None), ("BadNumber",))
        for bad in (-1, 8) + NO_NUMBERS:
            self.assertEqual(caught(WrongBook, 4, bad), ("BadRest",))
        self.assertIsNone(caught(WrongBook, 4, 7))
        for length in (15, 60):
            self.assertEqual(caught(next, wrong_members(WrongBook(length, 0))), ("TooMany", 2 ** length))


class Heads(unittest.TestCase):
    """[5.3]."""

    def test_heads(self):
        for book in BOOKS:
            heads = head_book(book)
            self.assertTrue(heads == SumBook(book.length - 1, book.length, book.rest % book.length))
            members = plain_members(book)
            self.assertEqual(list(sum_members(heads)), [member[:-1] for member in members])
            for head in every_word(2, book.length - 1):
                wanted = [member for member in members if member[:-1] == head]
                self.assertEqual(checked_word(book, list(head)), wanted[0] if wanted else None)
                self.assertEqual(heads.has(head), bool(wanted))

    def test_long_heads(self):
        for word in LONG:
            self.assertEqual(checked_word(WrongBook.holding(word), word[:-1]), word)
        self.assertIsNone(checked_word(WrongBook(60, 1), [0] * 59))

    def test_errors(self):
        book = WrongBook(4, 5)
        for thing in NO_SEQUENCES + ([0] * 62,):
            self.assertEqual(caught(checked_word, book, thing), ("BadWord", -1))
        self.assertEqual(caught(checked_word, book, [0, 2]), ("BadWord", 1))
        for length in (0, 2, 4, 61):
            self.assertEqual(caught(checked_word, book, [0] * length), ("NotOneOff",))


class Reading(unittest.TestCase):
    """[5.4]."""

    def test_example(self):
        book = WrongBook(4, 5)
        self.assertTrue(read_wrong(book, [1, 0, 1, 1]) == Read("wrong", (1, 0, 0, 1)))
        self.assertEqual(wrong_place(book, [1, 0, 1, 1]), 3)

    def test_against_a_plain_search(self):
        for book in BOOKS:
            for length in (book.length - 1, book.length, book.length + 1):
                for word in every_word(2, length):
                    wanted = plain_readings(book, word)
                    self.assertLessEqual(len(wanted), 1)
                    found = read_wrong(book, list(word))
                    if wanted:
                        self.assertTrue(found == Read(*wanted[0]), (vars(book), word))
                        self.assertTrue(made_of_tuples(found.member))
                    else:
                        self.assertIsNone(found)

    def test_places(self):
        for book in BOOKS:
            for word in every_word(2, book.length):
                place = wrong_place(book, list(word))
                read = read_wrong(book, word)
                if read is None:
                    self.assertIsNone(place)
                else:
                    wrong = [at + 1 for at in range(book.length) if read.member[at] != word[at]]
                    self.assertEqual(place, wrong[0] if wrong else 0)

    def test_long_words(self):
        for word in LONG:
            book = WrongBook.holding(word)
            self.assertTrue(read_wrong(book, word) == Read("none", word))
            for at in range(60):
                made = word[:at] + (1 - word[at],) + word[at + 1:]
                self.assertTrue(read_wrong(book, made) == Read("wrong", word))
                self.assertEqual(wrong_place(book, made), at + 1)
                self.assertTrue(read_wrong(book, word[:at] + word[at + 1:]) == Read("lost", word))
            for amount in range(62):
                self.assertTrue(read_wrong(book, lifted_word(word, amount)) == Read("put", word))

    def test_errors(self):
        book = WrongBook(4, 5)
        for call in (read_wrong, wrong_place):
            for thing in NO_SEQUENCES + ([0] * 62,):
                self.assertEqual(caught(call, book, thing), ("BadWord", -1))
            self.assertEqual(caught(call, book, [2]), ("BadWord", 0))
            self.assertEqual(caught(call, book, [0, 1, 1, True]), ("BadWord", 3))
            for length in (0, 2, 6, 60, 61):
                self.assertEqual(caught(call, book, [0] * length), ("NotOneOff",))
        for length in (3, 5):
            self.assertEqual(caught(wrong_place, book, [0] * length), ("NotOneOff",))
            self.assertIsNone(caught(read_wrong, book, [0] * length))

    def test_result(self):
        result = Read(None, member=[1])
        self.assertEqual((result.what, result.member), (None, [1]))
        self.assertTrue(result == Read(None, [1]))
        for other in (Read(0, [1]), Read(None, (1,)), (None, [1]), None):
            self.assertTrue(result != other)


class Rests(unittest.TestCase):
    """[5.5]."""

    def test_against_all_books(self):
        self.assertEqual(rests_that_read(2, (0, 1)), (0, 2, 3))
        for length in range(1, 6):
            for size in (length - 1, length, length + 1):
                for word in every_word(2, size):
                    found = rests_that_read(length, list(word))
                    wanted = tuple(rest for rest in range(2 * length)
                                   if plain_readings(WrongBook(length, rest), word))
                    self.assertEqual(found, wanted)
                    self.assertTrue(made_of_tuples(found))
                    self.assertEqual(len(found), count_runs(word) if size > length else length + 1)

    def test_long(self):
        for word in LONG:
            self.assertEqual(len(rests_that_read(60, word)), 61)
            self.assertEqual(len(rests_that_read(60, word[1:])), 61)
            longer = word + (1,)
            runs = 1 + sum(longer[at] != longer[at + 1] for at in range(60))
            self.assertEqual(len(rests_that_read(60, longer)), runs)

    def test_errors(self):
        for bad in (0, -1, 61) + NO_NUMBERS:
            self.assertEqual(caught(rests_that_read, bad, None), ("BadNumber",))
        for thing in NO_SEQUENCES + ([0] * 62,):
            self.assertEqual(caught(rests_that_read, 4, thing), ("BadWord", -1))
        self.assertEqual(caught(rests_that_read, 4, [0, 0, 0, 0, 0, 0, 3]), ("BadWord", 6))
        for length in (0, 2, 6, 61):
            self.assertEqual(caught(rests_that_read, 4, [0] * length), ("NotOneOff",))


class Clashes(unittest.TestCase):
    """[5.6]."""

    def check_couple(self, length, modulus):
        """The couple is right, or there is none exactly where none is told."""
        couple = wrong_clash(length, modulus)
        if modulus >= 2 * length:
            self.assertIsNone(couple)
            return
        one, other = couple
        self.assertTrue(made_of_tuples(couple))
        self.assertTrue(all(letter in (0, 1) for letter in one + other))
        self.assertEqual((len(one), len(other)), (length, length))
        self.assertIn(sum(x != y for x, y in zip(one, other)), (1, 2))
        self.assertEqual(plain_sum(one) % modulus, plain_sum(other) % modulus)

    def test_couples(self):
        for length in range(1, 61):
            for modulus in list(range(1, 2 * length + 3)) + [1000]:
                self.check_couple(length, modulus)

    def test_none_exactly_from_twice_the_length_on(self):
        for length in range(1, 5):
            words = every_word(2, length)
            for modulus in range(1, 2 * length + 3):
                close = any(
                    plain_sum(one) % modulus == plain_sum(other) % modulus
                    and sum(x != y for x, y in zip(one, other)) <= 2
                    for one in words for other in words if one < other
                )
                self.assertEqual(close, wrong_clash(length, modulus) is not None)

    def test_errors(self):
        for bad in (0, -1, 61) + NO_NUMBERS:
            self.assertEqual(caught(wrong_clash, bad, None), ("BadNumber",))
        for bad in (0, -1, 1001) + NO_NUMBERS:
            self.assertEqual(caught(wrong_clash, 4, bad), ("BadModulus",))


if __name__ == "__main__":
    unittest.main()
