"""lostplaces.streams: [9.10], and what [9.5] and [9.8] say of rows that a stream hears."""

import unittest

from lostplaces.books import Book
from lostplaces.cuttings import Told, cuts_told, sure_mark
from lostplaces.streams import Stream
from lostplaces.units import Units, written_row
from tests.helper import NO_NUMBERS, caught, chance_words, made_of_tuples, numbers
from tests.test_units import some_units


def told_units():
    """Units whose cuts are told, each with its wait; some with a long one."""
    found = some_units()
    for letters, length, many in ((2, 3, 1), (2, 4, 2), (3, 3, 2), (4, 3, 3), (4, 4, 4), (2, 6, 2)):
        for seed in range(8):
            book = Book(letters, length, chance_words(seed, letters, length, many))
            mark = sure_mark(book)
            if mark is not None:
                found.append(Units(book, mark))
    found = [(units, cuts_told(units)) for units in found]
    return [(units, cuts.wait) for units, cuts in found if isinstance(cuts, Told)]


UNITS = told_units()


def plain_readings(units, behind):
    """All readings by their definition."""
    if not behind:
        return [()]
    found = []
    for piece in units.pieces:
        word = piece[0]
        if len(word) >= len(behind):
            if word[:len(behind)] == behind:
                found.append((piece,))
        elif behind[:len(word)] == word:
            found += [(piece,) + more for more in plain_readings(units, behind[len(word):])]
    return found


def plain_hear(units, behind):
    """The members that are told of these letters, and the letters that are left."""
    told = []
    while behind:
        firsts = {reading[0] for reading in plain_readings(units, behind)}
        if len(firsts) != 1:
            break
        word, member = firsts.pop()
        if len(word) > len(behind):
            break
        told.append(member)
        behind = behind[len(word):]
    return tuple(told), behind


def written(units, row, many):
    """So many members and losses by a row of numbers that look like chance."""
    members = [units.book.words[next(row) % units.book.size] for _ in range(many)]
    losses = [next(row) % (units.length + 2) for _ in range(many)]
    return members, [place if 1 <= place <= units.length else None for place in losses]


def state_of(stream):
    """What a stream tells of itself."""
    return (stream.told, stream.behind, stream.heard)


class Making(unittest.TestCase):
    def test_not_told(self):
        seen = 0
        for units in some_units():
            if isinstance(cuts_told(units), Told):
                self.assertEqual(state_of(Stream(units)), ((), (), 0))
            else:
                self.assertEqual(caught(Stream, units), ("NotTold",))
                seen += 1
        self.assertGreater(seen, 50)

    def test_waits_are_of_many_kinds(self):
        self.assertGreater(len({wait - units.length for units, wait in UNITS}), 4)


class Hearing(unittest.TestCase):
    def test_against_all_readings(self):
        row = numbers(41)
        refused = 0
        for units, wait in UNITS:
            stream = Stream(units)
            told, behind, heard = (), (), 0
            for turn in range(40):
                letter = next(row) % units.book.letters
                before = state_of(stream)
                if not plain_readings(units, behind + (letter,)):
                    self.assertEqual(caught(stream.hear, letter), ("NoSuchRow",))
                    self.assertEqual(state_of(stream), before)
                    refused += 1
                    continue
                fresh, behind = plain_hear(units, behind + (letter,))
                told, heard = told + fresh, heard + 1
                answer = stream.hear(letter)
                self.assertEqual(answer, fresh)
                self.assertEqual(state_of(stream), (told, behind, heard))
                self.assertLess(len(behind), max(wait, 1))
                self.assertTrue(made_of_tuples((answer, stream.told, stream.behind)))
        self.assertGreater(refused, 100)

    def test_written_rows_are_told(self):
        row = numbers(17)
        for units, wait in UNITS:
            if units.book.size == 0:
                continue
            members, losses = written(units, row, 12)
            # The letter that ends each unit's wait, counted from 1.
            latest, begun = [], 0
            for loss in losses:
                latest.append(begun + wait)
                begun += units.length - (loss is not None)
            stream = Stream(units)
            for heard, letter in enumerate(written_row(units, members, losses), 1):
                stream.hear(letter)
                self.assertEqual(stream.told, tuple(members[:len(stream.told)]))
                due = sum(last <= heard for last in latest)
                self.assertGreaterEqual(len(stream.told), due)
                self.assertLess(len(stream.behind), wait)
                self.assertEqual(stream.heard, heard)
            self.assertEqual(stream.finish(), tuple(members))

    def test_the_wait_is_needed(self):
        # Behind both cuttings of a Told nothing is told of the first piece before letter wait.
        for units, wait in UNITS:
            if units.book.size == 0:
                continue
            cuts = cuts_told(units)
            row = [letter for word, _ in cuts.first for letter in word][:wait - 1]
            stream = Stream(units)
            self.assertEqual([stream.hear(letter) for letter in row], [()] * (wait - 1))

    def test_example(self):
        stream = Stream(Units(Book(2, 2, [[0, 0]]), [1]))
        self.assertEqual([stream.hear(0), stream.hear(0)], [(), ()])
        self.assertEqual(stream.behind, (0, 0))
        self.assertEqual(stream.hear(0), ((0, 0),))
        self.assertEqual((stream.told, stream.behind), (((0, 0),), (0,)))
        self.assertEqual(stream.hear(1), ((0, 0),))
        self.assertEqual(state_of(stream), (((0, 0), (0, 0)), (), 4))
        self.assertEqual(caught(stream.hear, 1), ("NoSuchRow",))
        self.assertEqual(sure_mark(Book(2, 2, [[0, 0]])), (0, 0, 0, 0, 1, 1))

    def test_a_mark_with_a_letter_of_its_own(self):
        # [9.8]: wait is n; each piece is told by the letter number n at the latest.
        for seed in range(5):
            book = Book(3, 3, chance_words(seed, 2, 3, 2))
            units = Units(book, [0, 2])
            if caught(Stream, units) is None:
                self.assertEqual(cuts_told(units).wait, 5)

    def test_more_than_200_letters(self):
        units = Units(Book(4, 4, [[0] * 4, [1] * 4, [2] * 4, [0, 1, 2, 2], [2, 0, 1, 0]]), [0, 3])
        self.assertIsInstance(cuts_told(units), Told)
        row = numbers(71)
        stream = Stream(units)
        wanted = []
        for _ in range(30):
            members, losses = written(units, row, 10)
            wanted += members
            for letter in written_row(units, members, losses):
                stream.hear(letter)
        self.assertEqual(stream.finish(), tuple(wanted))
        self.assertGreater(stream.heard, 1500)

    def test_no_letter(self):
        stream = Stream(Units(Book(3, 2, [[0, 0]]), [1]))
        stream.hear(0)
        for bad in (-1, 3, [0], (0,)) + NO_NUMBERS:
            self.assertEqual(caught(stream.hear, bad), ("BadLetter",))
            self.assertEqual(state_of(stream), ((), (0,), 1))
        self.assertEqual(caught(stream.hear, 2), ("NoSuchRow",))
        self.assertEqual(state_of(stream), ((), (0,), 1))

    def test_no_member(self):
        stream = Stream(Units(Book(2, 2, []), []))
        self.assertEqual(caught(stream.hear, 2), ("BadLetter",))
        self.assertEqual(caught(stream.hear, 0), ("NoSuchRow",))
        self.assertEqual((state_of(stream), stream.finish()), (((), (), 0), ()))


class Finishing(unittest.TestCase):
    def test_against_all_cuttings(self):
        row = numbers(29)
        ends = {True: 0, False: 0}
        for units, _ in UNITS:
            stream = Stream(units)
            for turn in range(25):
                before = state_of(stream)
                whole = [reading for reading in plain_readings(units, stream.behind)
                         if sum(len(word) for word, _ in reading) == len(stream.behind)]
                self.assertLessEqual(len(whole), 1)
                wanted = None
                if whole:
                    wanted = stream.told + tuple(member for _, member in whole[0])
                ends[bool(whole)] += 1
                self.assertEqual(stream.finish(), wanted)
                self.assertEqual(state_of(stream), before)
                caught(stream.hear, next(row) % units.book.letters)
        self.assertTrue(min(ends.values()) > 100)

    def test_hearing_goes_on(self):
        stream = Stream(Units(Book(2, 2, [[0, 0]]), [1]))
        self.assertEqual(stream.finish(), ())
        stream.hear(0)
        self.assertIsNone(stream.finish())
        stream.hear(0)
        self.assertEqual(stream.finish(), ((0, 0),))
        stream.hear(1)
        self.assertEqual(stream.finish(), ((0, 0),))
        self.assertTrue(made_of_tuples(stream.finish()))


if __name__ == "__main__":
    unittest.main()
