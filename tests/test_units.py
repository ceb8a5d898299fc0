"""lostplaces.units: [9.1], [9.2], the room of [9.7], the rows of [9.9]."""

import unittest

from lostplaces.books import Book
from lostplaces.judged import bears_lost
from lostplaces.units import Units, doubtful_piece, room_taken, unit_of, written_row
from tests.helper import (
    NO_NUMBERS, NO_SEQUENCES, caught, chance_words, every_book, every_word, made_of_tuples, numbers,
)


def plain_pieces(book, mark):
    """All couples (word, member), by losing each letter of each unit."""
    pieces = set()
    for member in book.words:
        unit = member + tuple(mark)
        pieces.add((unit, member))
        pieces.update((unit[:at] + unit[at + 1:], member) for at in range(len(unit)))
    return tuple(sorted(pieces))


def some_units(most=3):
    """Units of small books with short marks, with and without doubtful words and told cuts."""
    books = every_book(2, 1) + every_book(2, 2) + every_book(3, 1)[::2]
    for letters, length, many in ((2, 3, 2), (2, 3, 3), (2, 4, 3), (3, 2, 3), (4, 2, 2), (3, 3, 4)):
        for seed in range(5):
            books.append(Book(letters, length, chance_words(seed + 50, letters, length, many)))
    found = []
    row = numbers(23)
    for book in books:
        for length in range(max(0, 2 - book.length), most + 1):
            marks = every_word(book.letters, length)
            for mark in {marks[next(row) % len(marks)] for _ in range(3)}:
                found.append(Units(book, mark))
    for mark in ([0, 0], [0, 1, 1], [1, 0, 0, 1]):
        found += [Units(Book(2, 0, []), mark), Units(Book(2, 0, [()]), mark)]
    return found


class Making(unittest.TestCase):
    """[9.1]."""

    def test_attributes_and_likeness(self):
        book = Book(2, 2, [[0, 0]])
        units = Units(book, [1])
        self.assertEqual((units.book, units.mark, units.length), (book, (1,), 3))
        self.assertEqual(units, Units(Book(2, 2, [(0, 0)]), (1,)))
        for other in (Units(book, [0]), Units(book.put([1, 1]), [1]), Units(Book(3, 2, [[0, 0]]), [1]),
                      (book, (1,)), None):
            self.assertNotEqual(units, other)

    def test_bounds_of_the_length(self):
        for length, mark in ((2, ()), (1, (1,)), (0, (1, 0)), (24, ()), (12, (0,) * 12), (0, (1,) * 24)):
            units = Units(Book(2, length, []), mark)
            self.assertEqual((units.length, units.mark, units.pieces), (length + len(mark), mark, ()))
        for length, mark in ((0, ()), (1, ()), (0, (1,)), (24, (0,)), (0, (0,) * 25), (12, [0] * 13)):
            self.assertEqual(caught(Units, Book(2, length, []), mark), ("BadMark",))

    def test_marks_that_are_none(self):
        book = Book(2, 2, [[0, 1]])
        for thing in NO_SEQUENCES:
            self.assertEqual(caught(Units, book, thing), ("BadMark",))
        for bad in (-1, 2, 3) + NO_NUMBERS:
            self.assertEqual(caught(Units, book, [0, bad]), ("BadMark",))
        self.assertEqual(Units(Book(4, 2, []), [3]).mark, (3,))

    def test_just_200_and_201(self):
        mark = (0, 1) * 8
        words = [word for word in every_word(4, 4) if word[3] != 0]
        three = [word for word in words if runs(word) == 3][:10]
        four = [word for word in words if runs(word) == 4][:1]
        # Ten members and ten units of 19 runs, then one of 20 runs among them.
        self.assertEqual(len(Units(Book(4, 4, three), mark).pieces), 200)
        book = Book(4, 4, three[:9] + four)
        self.assertEqual(caught(Units, book, mark), ("TooMany", 201))
        book = Book(2, 8, every_word(2, 8)[:64])
        count = 64 + sum(runs(word + (1,)) for word in book)
        self.assertEqual(caught(Units, book, [1]), ("TooMany", count))

    def test_the_mark_is_checked_first(self):
        book = Book(2, 8, every_word(2, 8)[:64])
        self.assertEqual(caught(Units, book, [2]), ("BadMark",))
        self.assertEqual(caught(Units, book, [0])[0], "TooMany")


def runs(word):
    """How many runs a word has."""
    return sum(at == 0 or letter != word[at - 1] for at, letter in enumerate(word))


class Pieces(unittest.TestCase):
    """[9.2]."""

    def test_against_all_losses(self):
        for units in some_units():
            self.assertEqual(units.pieces, plain_pieces(units.book, units.mark))
            self.assertEqual(len(units.pieces), units.book.size
                             + sum(runs(member + units.mark) for member in units.book))
            self.assertTrue(made_of_tuples(units.pieces))

    def test_example(self):
        units = Units(Book(2, 2, [[0, 0]]), [1])
        self.assertEqual(units.pieces, (
            ((0, 0), (0, 0)), ((0, 0, 1), (0, 0)), ((0, 1), (0, 0))))
        self.assertIsNone(doubtful_piece(units))

    def test_doubtful_words(self):
        for units in some_units():
            leaving = {}
            for word, member in units.pieces:
                leaving.setdefault(word, []).append(member)
            doubtful = [(word,) + tuple(sorted(members)[:2])
                        for word, members in sorted(leaving.items()) if len(members) > 1]
            self.assertEqual(doubtful_piece(units), doubtful[0] if doubtful else None)
            if units.book.length > 0:
                self.assertEqual(not doubtful, bears_lost(units.book, 1))

    def test_three_members_of_one_word(self):
        units = Units(Book(3, 1, [[2], [1], [0]]), [2, 2])
        self.assertEqual(doubtful_piece(units), ((2, 2), (0,), (1,)))
        self.assertIsNone(doubtful_piece(Units(Book(3, 1, [[2]]), [2, 2])))
        self.assertIsNone(doubtful_piece(Units(Book(3, 1, []), [2, 2])))


class Room(unittest.TestCase):
    """[9.7], its room."""

    def test_against_the_pieces(self):
        for units in some_units():
            words = {word for word, _ in units.pieces}
            letters = units.book.letters
            taken = sum(1 if len(word) == units.length else letters for word in words)
            self.assertEqual(room_taken(units), (taken, letters ** units.length))

    def test_edges(self):
        self.assertEqual(room_taken(Units(Book(2, 0, []), [0, 1])), (0, 4))
        self.assertEqual(room_taken(Units(Book(4, 24, [[3] * 24]), [])), (1 + 4, 4 ** 24))
        self.assertEqual(room_taken(Units(Book(2, 1, [[0], [1]]), [0])), (2 + 4, 4))


class Writing(unittest.TestCase):
    """[9.9]."""

    def test_units_of_members(self):
        for units in some_units():
            for member in units.book:
                self.assertEqual(unit_of(units, list(member)), member + units.mark)
            for word in every_word(units.book.letters, units.book.length):
                if word not in units.book.words:
                    self.assertEqual(caught(unit_of, units, word), ("NoMember",))

    def test_what_is_no_member(self):
        units = Units(Book(2, 2, [[0, 1], [1, 1]]), [0])
        bad = NO_SEQUENCES + ([], [0], [0, 0], [0, 1, 0], [0, True], [False, 1], [0, 1.0], [0, "1"])
        for thing in bad:
            self.assertEqual(caught(unit_of, units, thing), ("NoMember",))
            self.assertEqual(caught(written_row, units, [[0, 1], thing], None), ("NoMember",))

    def test_rows_against_all_losses(self):
        for units in some_units(2)[::3]:
            row = numbers(7)
            for many in range(5):
                if units.book.size == 0 and many > 0:
                    continue
                members = [units.book.words[next(row) % units.book.size] for _ in range(many)]
                losses = [next(row) % (units.length + 1) or None for _ in range(many)]
                wanted = []
                for member, place in zip(members, losses):
                    unit = list(member + units.mark)
                    if place is not None:
                        del unit[place - 1]
                    wanted += unit
                written = written_row(units, [list(member) for member in members], losses)
                self.assertEqual(written, tuple(wanted))
                self.assertTrue(made_of_tuples(written))

    def test_bounds(self):
        units = Units(Book(2, 2, [[0, 1]]), [0])
        self.assertEqual(written_row(units, [], []), ())
        self.assertEqual(written_row(units, ([0, 1],) * 60, (None,) * 60), (0, 1, 0) * 60)
        self.assertEqual(written_row(units, [[0, 1]] * 2, [1, 3]), (1, 0, 0, 1))
        self.assertEqual(caught(written_row, units, [[0, 1]] * 61, None), ("NoMember",))
        for thing in NO_SEQUENCES:
            self.assertEqual(caught(written_row, units, thing, None), ("NoMember",))

    def test_losses(self):
        units = Units(Book(2, 2, [[0, 1]]), [0])
        for thing in NO_SEQUENCES + ([], [None], [None] * 3):
            if thing is not None:
                self.assertEqual(caught(written_row, units, [[0, 1]] * 2, thing), ("BadLosses", -1))
        self.assertEqual(caught(written_row, units, [[0, 1]], None), ("BadLosses", -1))
        for bad in (0, -1, 4, True, False, "1", 1.0, [1]):
            self.assertEqual(caught(written_row, units, [[0, 1]] * 3, [None, bad, bad]),
                             ("BadLosses", 1))


if __name__ == "__main__":
    unittest.main()
