"""lostplaces.doubles: [8.1] to [8.5]."""

import unittest
from itertools import groupby

from lostplaces.books import Book
from lostplaces.doubles import (
    RunPair, bears_runs, double_run, doubled_count, doubled_words, run_steps, runs_borne,
    runs_pair, swallow_run, swallowed_count, swallowed_words,
)
from lostplaces.judged import borne_of
from lostplaces.runs import lengths_of, shape_of
from tests.helper import (
    NO_NUMBERS, NO_SEQUENCES, caught, chance_words, every_word_up_to, made_of_tuples, some_books,
)

SMALL = every_word_up_to(2, 5) + every_word_up_to(3, 3) + [(3, 3, 0), (2, 3, 3, 3, 2), (3,)]


def plain_runs(word):
    """The runs of a word, as tuples of letters."""
    return [tuple(run) for _, run in groupby(word)]


def plain_shape(word):
    """The letters of the runs."""
    return tuple(run[0] for run in plain_runs(word))


def joined(runs):
    """The word of some runs."""
    return tuple(letter for run in runs for letter in run)


def plain_doubled(word, times):
    """All words by so many doubled letters, one after the other."""
    words = {tuple(word)}
    for _ in range(times):
        words = {
            joined(run + run[:1] * (at == to) for to, run in enumerate(plain_runs(old)))
            for old in words for at in range(len(plain_runs(old)))
        }
    return words


def plain_swallowed(word, times):
    """All words by so many swallowed letters, one after the other."""
    words = {tuple(word)}
    for _ in range(times):
        words = {
            joined(run[at == to:] for to, run in enumerate(plain_runs(old)))
            for old in words for at, long in enumerate(plain_runs(old)) if len(long) > 1
        }
    return words


def plain_steps(word, most):
    """For each word that at most so many deeds lead to, how many they are."""
    found = {tuple(word): 0}
    last = [tuple(word)]
    for many in range(1, most + 1):
        made = {new for old in last for new in plain_doubled(old, 1) | plain_swallowed(old, 1)}
        last = [new for new in made if new not in found]
        found.update({new: many for new in last})
    return found


class Deeds(unittest.TestCase):
    """[8.1]."""

    def test_against_the_runs(self):
        for word in SMALL:
            runs = plain_runs(word)
            for run in range(1, len(runs) + 1):
                longer = runs[:run - 1] + [runs[run - 1] + runs[run - 1][:1]] + runs[run:]
                self.assertEqual(double_run(list(word), run), joined(longer))
                shorter = runs[:run - 1] + [runs[run - 1][1:]] + runs[run:]
                if len(runs[run - 1]) > 1:
                    self.assertEqual(swallow_run(list(word), run), joined(shorter))
                    self.assertEqual(shape_of(swallow_run(word, run)), shape_of(word))
                else:
                    self.assertEqual(caught(swallow_run, word, run), ("TooShort",))

    def test_longest(self):
        self.assertEqual(double_run([3] * 24, 1), (3,) * 25)
        self.assertEqual(swallow_run([3] * 24, 1), (3,) * 23)
        self.assertEqual(double_run([0, 1] * 12, 24), (0, 1) * 12 + (1,))
        self.assertTrue(made_of_tuples((double_run([1], 1), swallow_run([1, 1], 1))))

    def test_errors(self):
        for call in (double_run, swallow_run):
            for thing in NO_SEQUENCES + ([0] * 25,):
                self.assertEqual(caught(call, thing, None), ("BadWord", -1))
            for bad in (-1, 4) + NO_NUMBERS:
                self.assertEqual(caught(call, [0, bad], None), ("BadWord", 1))
            for bad in (0, 3, -1) + NO_NUMBERS:
                self.assertEqual(caught(call, [0, 1, 1], bad), ("NoSuchRun",))
            self.assertEqual(caught(call, [], 1), ("NoSuchRun",))
        self.assertEqual(caught(swallow_run, [0, 1, 1], 1), ("TooShort",))


class Words(unittest.TestCase):
    """[8.2], [8.3]."""

    def test_against_deed_after_deed(self):
        for word in SMALL:
            for times in range(5):
                doubled = tuple(sorted(plain_doubled(word, times)))
                self.assertEqual(doubled_words(list(word), times), doubled)
                self.assertEqual(doubled_count(len(plain_runs(word)), times), len(doubled))
                swallowed = tuple(sorted(plain_swallowed(word, times)))
                self.assertEqual(swallowed_words(list(word), times), swallowed)
                self.assertEqual(swallowed_count(list(word), times), len(swallowed))

    def test_edges(self):
        self.assertEqual(doubled_words([], 0), ((),))
        self.assertEqual(doubled_words([], 1), ())
        self.assertEqual(swallowed_words([], 0), ((),))
        self.assertEqual(swallowed_words([], 24), ())
        self.assertEqual((swallowed_count([], 0), swallowed_count([], 1)), (1, 0))
        self.assertEqual(doubled_words([2] * 24, 24), ((2,) * 48,))
        self.assertEqual(swallowed_words([2] * 24, 23), ((2,),))
        self.assertEqual(swallowed_words([2] * 24, 24), ())
        self.assertEqual(doubled_words((1, 0) * 12, 0), ((1, 0) * 12,))
        self.assertTrue(made_of_tuples((doubled_words([0, 1], 3), swallowed_words([0, 0, 1, 1], 1))))

    def test_long_words(self):
        word = (0, 0, 0, 1, 1, 1) * 4
        for times in range(17):
            words = swallowed_words(word, times)
            self.assertEqual(len(words), swallowed_count(word, times))
            self.assertEqual(words, tuple(sorted(set(words))))
            for short in words[::50]:
                self.assertEqual((run_steps(word, short), len(short)), (times, 24 - times))
        self.assertEqual(len(swallowed_words(word, 8)), 1107)
        self.assertEqual(swallowed_words(word, 17), ())
        words = doubled_words(word, 4)
        self.assertEqual((len(words), len(set(words))), (330, 330))
        self.assertEqual({len(long) for long in words}, {28})
        self.assertEqual({plain_shape(long) for long in words}, {plain_shape(word)})

    def test_too_many(self):
        # No word has just 2000 or 2001 such words; these are the nearest numbers.
        self.assertEqual(len(doubled_words([0, 1, 2, 3, 0], 12)), 1820)
        self.assertEqual(caught(doubled_words, [0, 1] * 5, 5), ("TooMany", 2002))
        self.assertEqual(caught(doubled_words, [0, 1] * 12, 24), ("TooMany", 16123801841550))
        self.assertEqual(caught(doubled_words, [0, 1] * 12, 25), ("BadNumber",))

    def test_counts(self):
        self.assertEqual([doubled_count(0, times) for times in (0, 1, 60)], [1, 0, 0])
        self.assertEqual([doubled_count(runs, 0) for runs in (1, 60)], [1, 1])
        self.assertEqual(doubled_count(1, 60), 1)
        self.assertEqual(doubled_count(60, 1), 60)
        self.assertEqual(doubled_count(60, 60), 48307454420181661301946569760686328)
        self.assertEqual(swallowed_count([0] * 12 + [1] * 12, 11), 12)
        self.assertEqual(swallowed_count([0, 0, 1, 1] * 6, 6), 924)

    def test_errors(self):
        for call in (doubled_words, swallowed_words, swallowed_count):
            for thing in NO_SEQUENCES + ([0] * 25,):
                self.assertEqual(caught(call, thing, None), ("BadWord", -1))
            for bad in (-1, 4) + NO_NUMBERS:
                self.assertEqual(caught(call, [0, bad], None), ("BadWord", 1))
            for bad in (-1, 25) + NO_NUMBERS:
                self.assertEqual(caught(call, [0, 1], bad), ("BadNumber",))
        for bad in (-1, 61) + NO_NUMBERS:
            self.assertEqual(caught(doubled_count, bad, None), ("BadNumber",))
            self.assertEqual(caught(doubled_count, bad, 1), ("BadNumber",))
            self.assertEqual(caught(doubled_count, 1, bad), ("BadNumber",))


class Steps(unittest.TestCase):
    """[8.4]."""

    def test_against_deed_after_deed(self):
        words = [word for word in SMALL if len(word) <= 4]
        for one in words:
            found = plain_steps(one, 6)
            for other in words:
                steps = run_steps(list(one), list(other))
                self.assertEqual(steps, found.get(other))
                self.assertEqual(steps is None, plain_shape(one) != plain_shape(other))

    def test_long(self):
        self.assertEqual(run_steps([0] * 24, [0]), 23)
        self.assertEqual(run_steps([0] * 23 + [1], [0] + [1] * 23), 44)
        self.assertIsNone(run_steps([0] * 24, [1] * 24))
        self.assertIsNone(run_steps([], [0]))
        self.assertEqual(run_steps([], []), 0)

    def test_errors(self):
        for thing in NO_SEQUENCES + ([0] * 25,):
            self.assertEqual(caught(run_steps, thing, None), ("BadWord", -1))
            self.assertEqual(caught(run_steps, [0], thing), ("BadWord", -1))
        for bad in (-1, 4) + NO_NUMBERS:
            self.assertEqual(caught(run_steps, [0, bad], None), ("BadWord", 1))
            self.assertEqual(caught(run_steps, [0], [0, 3, bad]), ("BadWord", 2))


def books_with_runs():
    """Books with members of one shape, of more shapes, and others."""
    books = some_books(2)
    for seed, length in ((1, 5), (2, 6), (3, 7), (4, 8)):
        for many in (2, 3, 5):
            words = [word for word in chance_words(seed, 2, length, 60) if len(plain_runs(word)) < 4]
            books.append(Book(2, length, words[:many]))
    return books


def plain_apart(one, other):
    """By how much two words of one shape and length are apart, or None."""
    if plain_shape(one) != plain_shape(other):
        return None
    gaps = [len(run) - len(less) for run, less in zip(plain_runs(one), plain_runs(other))]
    return sum(gap for gap in gaps if gap > 0)


def plain_couples(book):
    """All couples of members, in order."""
    return [(one, other) for one in book.words for other in book.words if one < other]


class Borne(unittest.TestCase):
    """[8.5]."""

    def test_the_three_ways_are_one(self):
        for book in books_with_runs():
            for number in range(min(book.length, 3) + 1):
                couples = plain_couples(book)
                by_doubling = all(
                    not any(plain_doubled(one, k) & plain_doubled(other, k)
                            for k in range(number + 1)) for one, other in couples)
                by_swallowing = all(
                    not any(plain_swallowed(one, k) & plain_swallowed(other, k)
                            for k in range(number + 1)) for one, other in couples)
                self.assertIs(bears_runs(book, number), by_doubling)
                self.assertIs(bears_runs(book, number), by_swallowing)
                if number < 3:
                    by_both = all(not set(plain_steps(one, number)) & set(plain_steps(other, number))
                                  for one, other in couples)
                    self.assertIs(bears_runs(book, number), by_both)

    def test_number(self):
        for book in books_with_runs():
            aparts = [plain_apart(one, other) for one, other in plain_couples(book)]
            aparts = [apart for apart in aparts if apart is not None]
            borne = min(aparts) - 1 if aparts else book.length
            self.assertEqual(runs_borne(book), borne)
            self.assertLessEqual(borne_of(book), borne)
            for number in range(book.length + 1):
                self.assertIs(bears_runs(book, number), number <= borne)

    def test_pairs(self):
        for book in books_with_runs():
            for number in range(book.length + 1):
                pair = runs_pair(book, number)
                near = [(one, other, plain_apart(one, other)) for one, other in plain_couples(book)
                        if (plain_apart(one, other) or 99) <= number]
                if not near:
                    self.assertIsNone(pair)
                    continue
                one, other, apart = near[0]
                self.assertEqual((pair.one, pair.other, pair.apart), near[0])
                self.assertEqual(len(pair.longer), book.length + apart)
                self.assertEqual(len(pair.shorter), book.length - apart)
                for member in (one, other):
                    self.assertIn(pair.longer, plain_doubled(member, apart))
                    self.assertIn(pair.shorter, plain_swallowed(member, apart))
                self.assertTrue(made_of_tuples(tuple(vars(pair).values())))

    def test_example(self):
        book = Book(2, 4, [[0, 0, 1, 1], [0, 1, 1, 1]])
        self.assertEqual((shape_of([0, 0, 1, 1]), lengths_of([0, 0, 1, 1])), ((0, 1), (2, 2)))
        self.assertEqual(doubled_words([0, 0, 1, 1], 1), ((0, 0, 0, 1, 1), (0, 0, 1, 1, 1)))
        self.assertEqual(swallowed_words([0, 0, 1, 1], 1), ((0, 0, 1), (0, 1, 1)))
        self.assertEqual(runs_borne(book), 0)
        self.assertEqual(runs_pair(book, 1), RunPair(
            (0, 0, 1, 1), (0, 1, 1, 1), 1, (0, 0, 1, 1, 1), (0, 1, 1)))
        self.assertIsNone(runs_pair(book, 0))

    def test_edges(self):
        for book in (Book(2, 0, []), Book(2, 0, [()]), Book(3, 24, []), Book(4, 24, [[3] * 24])):
            self.assertEqual(runs_borne(book), book.length)
            self.assertIs(bears_runs(book, book.length), True)
            self.assertIsNone(runs_pair(book, book.length))
        far = Book(2, 24, [[0] * 23 + [1], [0] + [1] * 23, [1] * 24])
        self.assertEqual(runs_borne(far), 21)
        self.assertIsNone(runs_pair(far, 21))
        pair = runs_pair(far, 22)
        self.assertEqual((pair.apart, pair.longer, pair.shorter), (22, (0,) * 23 + (1,) * 23, (0, 1)))

    def test_many_members(self):
        words = [[0] * k + [1] * (24 - k) for k in range(24)]
        words += [[0] * k + [1] * 3 + [0] * (21 - k) for k in range(1, 21)]
        words += [[0] * k + [2] * 4 + [1] * (20 - k) for k in range(1, 20)]
        book = Book(3, 24, (words + [[2] * 24])[:64])
        self.assertEqual((book.size, runs_borne(book)), (64, 0))
        pair = runs_pair(book, 24)
        self.assertEqual((pair.one, pair.other), first_couple_of_one_shape(book))

    def test_errors(self):
        book = Book(2, 2, [[0, 1]])
        for call in (bears_runs, runs_pair):
            for bad in (-1, 3) + NO_NUMBERS:
                self.assertEqual(caught(call, book, bad), ("BadNumber",))


def first_couple_of_one_shape(book):
    """The first couple of members of one shape."""
    return [couple for couple in plain_couples(book)
            if plain_shape(couple[0]) == plain_shape(couple[1])][0]


if __name__ == "__main__":
    unittest.main()
