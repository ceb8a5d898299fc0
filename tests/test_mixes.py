"""lostplaces.mixes: [2.9] to [2.12], and [0.5] for its result."""

import unittest

from lostplaces.books import Book
from lostplaces.judged import borne_of
from lostplaces.mixes import (
    MixClash, bears_mix, bears_mixes, book_mix, check_mix, comes_by_mix, least_mix, mix_clash,
    mix_fault, mixed_words,
)
from tests.helper import (
    NO_NUMBERS, NO_SEQUENCES, caught, chance_words, every_word, every_word_up_to, made_of_tuples,
    plain_mixed, some_books, table_common,
)

EXAMPLE = Book(2, 4, [(0, 0, 0, 0), (0, 1, 1, 0), (1, 0, 0, 1), (1, 1, 1, 1)])


def mixes_of(length, lost=3, put=2, wrong=2):
    """Small mixes for words of a length."""
    return [(a, b, e) for a in range(min(length, lost) + 1)
            for b in range(put + 1) for e in range(wrong + 1)]


class Mixes(unittest.TestCase):
    """[2.9]."""

    def test_check_mix(self):
        self.assertEqual(check_mix(4, [4, 8, 8]), (4, 8, 8))
        self.assertEqual(check_mix(0, (0, 0, 0)), (0, 0, 0))
        self.assertEqual(check_mix(24, (24, 0, 0)), (24, 0, 0))
        for bad in (-1, 25) + NO_NUMBERS:
            self.assertEqual(caught(check_mix, bad, None), ("BadNumber",))
        for bad in NO_SEQUENCES + ([], [0, 0], [0, 0, 0, 0], "000"):
            self.assertEqual(caught(check_mix, 4, bad), ("BadMix", "mix"))
        for bad in (-1, 5) + NO_NUMBERS:
            self.assertEqual(caught(check_mix, 4, [bad, 9, 9]), ("BadMix", "lost"))
        for bad in (-1, 9) + NO_NUMBERS:
            self.assertEqual(caught(check_mix, 4, [4, bad, 9]), ("BadMix", "put"))
            self.assertEqual(caught(check_mix, 4, [4, 8, bad]), ("BadMix", "wrong"))

    def test_mixed_words_against_a_plain_search(self):
        for letters, most in ((2, 4), (3, 2)):
            for word in every_word_up_to(letters, most):
                for mix in mixes_of(len(word)):
                    wanted = tuple(sorted(plain_mixed(letters, word, mix)))
                    self.assertEqual(mixed_words(letters, list(word), list(mix)), wanted)

    def test_mixed_words_edges(self):
        self.assertEqual(mixed_words(2, (), (0, 0, 8)), ((),))
        self.assertEqual(mixed_words(2, [0] * 10, (0, 0, 0)), ((0,) * 10,))
        self.assertEqual(len(mixed_words(2, [0] * 10, (0, 0, 8))), 1024 - 11)
        self.assertEqual(len(mixed_words(2, [0, 1], (0, 8, 0))), 1024 - 11)
        self.assertTrue(made_of_tuples(mixed_words(4, [3, 0], [1, 1, 1])))

    def test_mixed_words_errors(self):
        for bad in (1, 5) + NO_NUMBERS:
            self.assertEqual(caught(mixed_words, bad, None, None), ("BadLetters",))
        for thing in NO_SEQUENCES + ([0] * 25,):
            self.assertEqual(caught(mixed_words, 2, thing, None), ("BadWord", -1))
        self.assertEqual(caught(mixed_words, 2, (0, 2), None), ("BadWord", 1))
        self.assertEqual(caught(mixed_words, 2, (0, 1), (3, 0, 0)), ("BadMix", "lost"))
        self.assertEqual(caught(mixed_words, 2, [0] * 11, (11, 0, 0)), ("TooMany", 2 ** 11))
        self.assertEqual(caught(mixed_words, 2, [0] * 3, (0, 8, 0)), ("TooMany", 2 ** 11))
        self.assertEqual(caught(mixed_words, 4, [0] * 24, (0, 8, 8)), ("TooMany", 4 ** 32))
        self.assertEqual(caught(mixed_words, 3, [0] * 7, (0, 0, 0)), ("TooMany", 3 ** 7))
        self.assertIsNone(caught(mixed_words, 3, [0] * 6, (0, 0, 0)))

    def test_comes_by_mix(self):
        for word in every_word_up_to(2, 4):
            for mix in mixes_of(len(word)):
                found = plain_mixed(2, word, mix)
                for other in every_word(2, len(word) - mix[0] + mix[1]):
                    self.assertIs(comes_by_mix(list(word), mix, list(other)), other in found)
        self.assertIs(comes_by_mix((0, 1), (0, 0, 2), (0, 1, 1)), False)
        self.assertIs(comes_by_mix((0, 1), (0, 0, 2), (3, 2)), True)
        self.assertIs(comes_by_mix((0, 1), (0, 0, 1), (3, 2)), False)
        self.assertIs(comes_by_mix([0] * 24, (24, 8, 0), [1] * 8), True)
        self.assertIs(comes_by_mix([], (0, 0, 0), []), True)

    def test_comes_by_mix_errors(self):
        for thing in NO_SEQUENCES + ([0] * 25,):
            self.assertEqual(caught(comes_by_mix, thing, None, None), ("BadWord", -1))
            self.assertEqual(caught(comes_by_mix, (), (0, 0, 0), thing), ("BadWord", -1))
        self.assertEqual(caught(comes_by_mix, (0, 4), None, None), ("BadWord", 1))
        self.assertEqual(caught(comes_by_mix, (0,), (2, 0, 0), (4,)), ("BadMix", "lost"))
        self.assertEqual(caught(comes_by_mix, (3,), (1, 0, 0), (3, True)), ("BadWord", 1))
        self.assertEqual(caught(comes_by_mix, (3,), (1, 0, 0), (3, 4)), ("BadWord", 1))


def plain_least(one, other):
    """The least mix by a plain search over all couples of words below."""
    from itertools import combinations
    length = len(one)
    return tuple(
        min(sum(x != y for x, y in zip(left, right))
            for left in combinations(one, length - lost) for right in combinations(other, length - lost))
        for lost in range(length + 1)
    )


def fewest_wrong(one, other, pairs):
    """The fewest unlike pairs among so many pairs of letters in order, by a plain table."""
    none = [99] * (pairs + 1)
    row = [[0] + none[1:] for _ in range(len(other) + 1)]
    for letter in one:
        fresh = [[0] + none[1:]]
        for at, sign in enumerate(other):
            wrong = 0 if letter == sign else 1
            paired = [99] + [fewest + wrong for fewest in row[at][:-1]]
            fresh.append([min(three) for three in zip(row[at + 1], fresh[at], paired)])
        row = fresh
    return row[-1][pairs]


class Least(unittest.TestCase):
    """[2.10]."""

    def test_examples(self):
        self.assertEqual(least_mix((0, 1, 1, 0), (1, 0, 0, 1)), (4, 1, 0, 0, 0))
        self.assertEqual(least_mix((), []), (0,))
        self.assertEqual(least_mix([0] * 24, [1] * 24), tuple(range(24, -1, -1)))

    def test_against_a_plain_search(self):
        for length in range(5):
            for one in every_word(2, length):
                for other in every_word(2, length):
                    self.assertEqual(least_mix(one, other), plain_least(one, other))
        for one in chance_words(1, 4, 6, 8):
            for other in chance_words(2, 4, 6, 8):
                self.assertEqual(least_mix(one, other), plain_least(one, other))

    def test_long_words(self):
        words = chance_words(3, 2, 24, 4) + chance_words(4, 4, 24, 4)
        for one in words:
            for other in words:
                row = least_mix(one, other)
                self.assertEqual(row[0], sum(x != y for x, y in zip(one, other)))
                self.assertEqual(list(row), sorted(row, reverse=True))
                apart = 24 - table_common(one, other)
                self.assertEqual([number == 0 for number in row],
                                 [lost >= apart for lost in range(25)])
                for lost in (1, 4, 9):
                    self.assertEqual(row[lost], fewest_wrong(one, other, 24 - lost))

    def test_errors(self):
        for thing in NO_SEQUENCES + ([0] * 25,):
            self.assertEqual(caught(least_mix, thing, None), ("BadWord", -1))
            self.assertEqual(caught(least_mix, (0,), thing), ("BadWord", -1))
        self.assertEqual(caught(least_mix, (4,), (True,)), ("BadWord", 0))
        self.assertEqual(caught(least_mix, (3,), (0, True)), ("BadWord", 1))
        self.assertEqual(caught(least_mix, (3,), (3, 4)), ("BadWord", 1))
        self.assertEqual(caught(least_mix, (3, 4), ()), ("BadWord", 1))
        self.assertEqual(caught(least_mix, (3,), (0, 1)), ("UnlikeWords",))

    def test_books(self):
        for book in some_books(11):
            rows = [plain_least(one, other) for one in book for other in book if one < other]
            wanted = tuple(min(column) for column in zip(*rows)) if rows else None
            self.assertEqual(book_mix(book), wanted)
        self.assertIsNone(book_mix(Book(2, 3, [])))
        self.assertIsNone(book_mix(Book(2, 3, [(0, 0, 0)])))
        self.assertEqual(book_mix(EXAMPLE), (2, 1, 0, 0, 0))


class Clashes(unittest.TestCase):
    """[2.11] and [2.12]."""

    def check_mixes(self, book, first, second, clash):
        """Hold bears_mixes and the clash against the sets of words of all members."""
        by_first = {word: plain_mixed(book.letters, word, first) for word in book}
        by_second = {word: plain_mixed(book.letters, word, second) for word in book}
        bears = not any(by_first[one] & by_second[other]
                        for one in book for other in book if one != other)
        self.assertIs(bears_mixes(book, first, second), bears)
        if bears:
            self.assertIsNone(clash)
            return
        self.assertNotEqual(clash.one, clash.other)
        self.assertIn(clash.word, by_first[clash.one] & by_second[clash.other])
        self.assertTrue(made_of_tuples((clash.one, clash.other, clash.word)))
        self.assertIsNone(mix_fault(book, first, second, clash))

    def test_against_a_plain_search(self):
        books = [book for book in some_books(12) if book.length < 4 and book.letters < 4][::3]
        for book in books + [EXAMPLE]:
            mixes = mixes_of(book.length, 3, 2, 1)
            for first in mixes:
                self.assertIs(bears_mix(book, first), bears_mixes(book, first, first))
                for second in mixes[::2]:
                    self.check_mixes(book, first, second, mix_clash(book, first, second))

    def test_one_mix(self):
        for book in [book for book in some_books(13) if book.length < 5 and book.letters < 4][::2]:
            for mix in mixes_of(book.length, 4, 2, 1):
                self.check_mixes(book, mix, mix, mix_clash(book, mix))

    def test_long_words_and_great_mixes(self):
        book = Book(3, 24, chance_words(21, 3, 24, 5))
        for first, second in (((24, 8, 8), (24, 8, 8)), ((4, 8, 0), (0, 4, 8)), ((8, 8, 0), (8, 8, 0)),
                              ((20, 0, 0), (24, 4, 0)), ((2, 2, 8), (2, 2, 8)), ((0, 8, 8), (0, 8, 8)),
                              ((0, 0, 8), (0, 0, 8)), ((7, 0, 2), (7, 0, 2)), ((1, 0, 0), (1, 0, 0))):
            clash = mix_clash(book, first, second)
            place = min(first[0] + second[1], 24)
            self.assertEqual(clash is None, book_mix(book)[place] > first[2] + second[2])
            self.assertIs(bears_mixes(book, first, second), clash is None)
            if clash is not None:
                self.assertIsNone(mix_fault(book, first, second, clash))
                self.assertEqual(len(clash.word), 24 - first[0] + first[1])

    def test_long_words_with_no_wrong_letter_to_spare(self):
        words = chance_words(41, 2, 24, 3) + chance_words(42, 4, 24, 3)
        for one in words[:3]:
            for other in words[3:]:
                book = Book(4, 24, [one, other])
                row = least_mix(one, other)
                for apart in range(0, 13):
                    for put in (0, apart // 3, min(apart, 8)):
                        wrong = row[apart]
                        if wrong > 16:
                            continue
                        first = (apart - put, put, min(wrong, 8))
                        second = (apart - put, put, wrong - min(wrong, 8))
                        clash = mix_clash(book, first, second)
                        self.assertEqual(len(clash.word), 24 - apart + 2 * put)
                        for word, mix in ((clash.one, first), (clash.other, second)):
                            self.assertLessEqual(fewest_wrong(word, clash.word, 24 - mix[0]), mix[2])
                        if wrong > 0:
                            fewer = (first[0], first[1], first[2] - 1)
                            self.assertIsNone(mix_clash(book, fewer, second))

    def test_by_the_least_mix(self):
        for one in chance_words(31, 2, 5, 5):
            for other in chance_words(32, 2, 5, 5):
                if one != other:
                    book = Book(2, 5, [one, other])
                    row = plain_least(one, other)
                    for first in mixes_of(5, 3, 1, 1):
                        for second in mixes_of(5, 3, 1, 1):
                            meet = first[1] - first[0] == second[1] - second[0]
                            near = row[min(first[0] + second[1], 5)] <= first[2] + second[2]
                            self.assertIs(bears_mixes(book, first, second), not (meet and near))

    def test_by_the_borne_number(self):
        for book in some_books(14):
            for first in mixes_of(book.length):
                for second in mixes_of(book.length):
                    meet = first[1] - first[0] == second[1] - second[0]
                    both = first[0] + second[1]
                    if book.size > 1 and meet and first[2] + second[2] == 0:
                        self.assertIs(bears_mixes(book, first, second), both <= borne_of(book))
                    if both + first[2] + second[2] <= borne_of(book):
                        self.assertTrue(bears_mixes(book, first, second))

    def test_unlike_lengths_and_small_books(self):
        self.assertIs(bears_mixes(EXAMPLE, (4, 0, 8), (3, 0, 8)), True)
        self.assertIsNone(mix_clash(EXAMPLE, (4, 0, 8), (3, 0, 8)))
        for book in (Book(2, 3, []), Book(2, 3, [(0, 1, 1)]), Book(2, 0, [()])):
            self.assertIs(bears_mix(book, (0, 8, 8)), True)
            self.assertIsNone(mix_clash(book, (0, 8, 8)))
            self.assertIsNone(mix_clash(book, (0, 8, 8), None))

    def test_errors(self):
        good = (1, 1, 1)
        for bad, what in (((5, 9, 9), "lost"), ((4, 9, 9), "put"), ((0, 0, True), "wrong"), (7, "mix"),
                          ((0, 0), "mix")):
            for book in (EXAMPLE, Book(2, 4, [])):
                self.assertEqual(caught(bears_mix, book, bad), ("BadMix", what))
                self.assertEqual(caught(mix_clash, book, bad), ("BadMix", what))
                for call in (bears_mixes, mix_clash):
                    self.assertEqual(caught(call, book, bad, (0, 0, 9)), ("BadMix", what))
                    self.assertEqual(caught(call, book, good, bad), ("BadMix", what))
                self.assertEqual(caught(mix_fault, book, bad, (0, 0, 9), None), ("BadMix", what))
                self.assertEqual(caught(mix_fault, book, good, bad, None), ("BadMix", what))
        self.assertEqual(caught(bears_mixes, EXAMPLE, good, None), ("BadMix", "mix"))

    def test_faults(self):
        first, second = (2, 0, 0), (2, 0, 0)
        one, other = (0, 1, 1, 0), (1, 0, 0, 1)
        for clash, word in (
            (MixClash(one, other, (0, 1)), None),
            (MixClash(other, one, (1, 0)), None),
            (MixClash((0, 1, 0, 0), other, (0, 1)), "one"),
            (MixClash((0, 1), (9,), (9,)), "one"),
            (MixClash(one, one, (0, 1)), "other"),
            (MixClash(one, (0, 1, 0, 0), (9,)), "other"),
            (MixClash(one, other, (0,)), "word"),
            (MixClash(one, other, (0, 1, 1)), "word"),
            (MixClash(one, other, (0, 2)), "word"),
            (MixClash(one, other, (0,) * 33), "word"),
        ):
            self.assertEqual(mix_fault(EXAMPLE, first, second, clash), word)
        self.assertEqual(mix_fault(EXAMPLE, (1, 0, 0), (1, 0, 0), MixClash(one, other, (0, 1, 1))), "word")
        self.assertEqual(mix_fault(EXAMPLE, (1, 0, 0), (1, 0, 0), MixClash(one, other, (1, 0, 0))), "word")
        self.assertIsNone(mix_fault(EXAMPLE, (1, 0, 1), (1, 0, 0), MixClash(one, other, (1, 0, 0))))
        self.assertEqual(mix_fault(EXAMPLE, (1, 0, 0), (1, 0, 1), MixClash(one, other, (1, 0, 1))), "word")
        # A wrong letter may be any letter of the book, and no other one.
        book = Book(3, 4, EXAMPLE.words)
        self.assertIsNone(mix_fault(book, (2, 0, 1), (2, 0, 1), MixClash(one, other, (0, 2))))
        self.assertEqual(mix_fault(EXAMPLE, (2, 0, 1), (2, 0, 1), MixClash(one, other, (0, 2))), "word")
        self.assertEqual(mix_fault(EXAMPLE, (2, 0, 0), (3, 0, 0), MixClash(one, other, (0, 1))), "word")

    def test_words_of_32_letters(self):
        book = Book(2, 24, [[0] * 24, [1] * 24])
        self.assertIsNone(mix_clash(book, (0, 7, 8)))
        mix = (0, 8, 8)
        self.assertIsNone(mix_fault(book, mix, mix, mix_clash(book, mix)))
        near = Book(2, 24, [[0] * 24, [0] * 16 + [1] * 8])
        clash = mix_clash(near, (0, 8, 0))
        self.assertEqual(len(clash.word), 32)
        self.assertIsNone(mix_fault(near, (0, 8, 0), (0, 8, 0), clash))
        self.assertEqual(table_common(clash.one, clash.word), 24)

    def test_results(self):
        clash = MixClash(1, [2], None)
        self.assertEqual((clash.one, clash.other, clash.word), (1, [2], None))
        self.assertTrue(clash == MixClash(one=1, other=[2], word=None))
        for parts in ((0, [2], None), (1, [], None), (1, [2], ())):
            self.assertTrue(clash != MixClash(*parts))
        self.assertFalse(clash == (1, [2], None))

    def test_lists_stay(self):
        first, second, word = [1, 1, 0], [2, 2, 1], [0, 1, 1]
        mix_clash(EXAMPLE, first, second)
        bears_mixes(EXAMPLE, first, second)
        mixed_words(2, word, first)
        least_mix(word, word)
        self.assertEqual((first, second, word), ([1, 1, 0], [2, 2, 1], [0, 1, 1]))


if __name__ == "__main__":
    unittest.main()
