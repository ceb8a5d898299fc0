"""lostplaces.edits: [10.6]."""

import unittest

from lostplaces.books import Book
from lostplaces.edits import edited_units
from lostplaces.units import Units
from tests.helper import (
    NO_NUMBERS, NO_SEQUENCES, caught, every_word, numbers,
)
from tests.test_units import runs, some_units

KINDS = ("put", "strike", "mark", "turn")


def plain_edited(units, edits):
    """The units behind good edits, by sets of words; None at the first edit that is wrong."""
    letters, length = units.book.letters, units.book.length
    words, mark = set(units.book.words), units.mark
    for edit in edits:
        if edit[0] == "put":
            if tuple(edit[1]) in words:
                return None
            words.add(tuple(edit[1]))
        elif edit[0] == "strike":
            if tuple(edit[1]) not in words:
                return None
            words.remove(tuple(edit[1]))
        elif edit[0] == "mark":
            mark = tuple(edit[1])
            if not 2 <= length + len(mark) <= 24:
                return None
        else:
            words, mark = {word[::-1] for word in words}, mark[::-1]
        if len(words) > 64 or len(words) + sum(runs(word + mark) for word in words) > 200:
            return None
    return Units(Book(letters, length, sorted(words)), mark)


def chance_edits(units, row, many):
    """Edits that look like chance; most of them can be done."""
    letters, length = units.book.letters, units.book.length
    words = every_word(letters, length)
    edits = []
    for _ in range(many):
        kind = KINDS[next(row) % 4]
        if kind == "turn":
            edits.append(["turn"])
        elif kind == "mark":
            edits.append(("mark", [next(row) % letters for _ in range(next(row) % 4)]))
        else:
            edits.append((kind, list(words[next(row) % len(words)])))
    return edits


class Edits(unittest.TestCase):
    def test_against_sets_of_words(self):
        row = numbers(61)
        done = 0
        for units in some_units(2):
            for many in (0, 1, 2, 3, 12):
                edits = chance_edits(units, row, many)
                wanted = plain_edited(units, edits)
                if wanted is None:
                    self.assertEqual(caught(edited_units, units, edits)[0], "BadEdit")
                else:
                    done += 1
                    self.assertEqual(edited_units(units, edits), wanted)
                    self.assertEqual(edited_units(units, tuple(edits)).pieces, wanted.pieces)
        self.assertGreater(done, 200)

    def test_each_kind(self):
        units = Units(Book(2, 2, [[0, 1]]), [1, 1, 0])
        for edit, book, mark in (
            (("put", [1, 1]), [[0, 1], [1, 1]], [1, 1, 0]), (["strike", (0, 1)], [], [1, 1, 0]),
            (["mark", []], [[0, 1]], []), (("turn",), [[1, 0]], [0, 1, 1]),
        ):
            self.assertEqual(edited_units(units, [edit]), Units(Book(2, 2, book), mark))
        self.assertEqual(units, Units(Book(2, 2, [[0, 1]]), [1, 1, 0]))
        self.assertEqual(edited_units(units, []), units)

    def test_each_edit_is_about_the_units_behind_the_earlier_ones(self):
        units = Units(Book(2, 2, [[0, 1]]), [1])
        edits = [("turn",), ("strike", [1, 0]), ("put", [1, 0]), ("turn",)]
        self.assertEqual(edited_units(units, edits), units)
        self.assertEqual(caught(edited_units, units, [("turn",), ("strike", [0, 1])]),
                         ("BadEdit", 1, "lacking"))
        edits = [("put", [1, 1]), ("put", [1, 1])]
        self.assertEqual(caught(edited_units, units, edits), ("BadEdit", 1, "there"))

    def test_how_many(self):
        units = Units(Book(2, 2, [[0, 1]]), [1])
        self.assertEqual(edited_units(units, [("turn",)] * 12), units)
        self.assertEqual(caught(edited_units, units, [("turn",)] * 13), ("BadEdit", -1, "many"))
        self.assertEqual(caught(edited_units, units, [None] * 13), ("BadEdit", -1, "many"))
        for thing in NO_SEQUENCES:
            self.assertEqual(caught(edited_units, units, thing), ("BadEdit", -1, "many"))

    def test_kinds(self):
        units = Units(Book(2, 2, [[0, 1]]), [1])
        bad = NO_SEQUENCES + (
            [], (), ["put"], ["strike"], ["mark"], ["turn", 1], ["turn", []], ["put", [0, 0], 1],
            ["mark", [0], [0]], ["fill", 1], ["Put", [0, 0]], [None, [0, 0]], [["put"], [0, 0]],
            [True], [1, [0, 0]], "put", "turn", [{}, []],
        )
        for thing in bad:
            self.assertEqual(caught(edited_units, units, [("turn",), thing, thing]),
                             ("BadEdit", 1, "kind"))

    def test_words(self):
        units = Units(Book(2, 2, [[0, 1]]), [1])
        for thing in NO_SEQUENCES + ([], [0], [0, 1, 0], [0, 2], [0, True], [False, 1], [0, -1]):
            for kind in ("put", "strike"):
                self.assertEqual(caught(edited_units, units, [(kind, thing)]),
                                 ("BadEdit", 0, "word"))
        self.assertEqual(caught(edited_units, units, [("put", [0, 1])]), ("BadEdit", 0, "there"))
        self.assertEqual(caught(edited_units, units, [("strike", [0, 0])]),
                         ("BadEdit", 0, "lacking"))

    def test_marks(self):
        units = Units(Book(2, 2, [[0, 1]]), [1])
        for thing in NO_SEQUENCES + ([2], [-1], [True], [0] * 23):
            self.assertEqual(caught(edited_units, units, [("mark", thing)]), ("BadEdit", 0, "mark"))
        self.assertEqual(edited_units(units, [("mark", [0] * 22)]).length, 24)
        short = Units(Book(2, 1, []), [0])
        self.assertEqual(caught(edited_units, short, [("mark", [])]), ("BadEdit", 0, "mark"))
        for bad in NO_NUMBERS:
            self.assertEqual(caught(edited_units, units, [("mark", [bad])]), ("BadEdit", 0, "mark"))

    def test_as_many_members_as_there_is_room_for(self):
        # With three runs a unit there are too many pieces ahead of that.
        words = sorted(every_word(2, 6), key=runs)
        few = []
        for word in words:
            if len(few) + 1 + sum(map(runs, few)) + runs(word) <= 200:
                few.append(word)
        units = Units(Book(2, 6, few), [])
        left = [word for word in words if word not in few]
        self.assertEqual(caught(edited_units, units, [("put", left[0])]), ("BadEdit", 0, "full"))

    def test_just_64_members(self):
        # 24 letters in at most two runs: there are 64 of them among four letters.
        words = [(a,) * 22 + (b,) * 2 for a in range(4) for b in range(4)]
        words += [(a,) * k + (b,) * (24 - k) for k in (3, 5, 7, 9) for a in range(4)
                  for b in range(4) if a != b]
        book = Book(4, 24, words[:64])
        self.assertEqual(book.size, 64)
        units = Units(book, [])
        self.assertLessEqual(len(units.pieces), 200)
        self.assertEqual(caught(edited_units, units, [("put", [0] * 11 + [1] * 13)]),
                         ("BadEdit", 0, "full"))
        edits = [("strike", words[0]), ("put", [0] * 11 + [1] * 13)]
        self.assertEqual(edited_units(units, edits).book.size, 64)

    def test_too_many_pieces(self):
        mark = (0, 1) * 8
        words = [word for word in every_word(4, 4) if word[3] != 0]
        three = [word for word in words if runs(word) == 3][:10]
        units = Units(Book(4, 4, three), mark)
        self.assertEqual(len(units.pieces), 200)
        self.assertEqual(caught(edited_units, units, [("put", [0] * 4)]), ("BadEdit", 0, "full"))
        longer = ("mark", (0, 1) * 8 + (0,))
        self.assertEqual(caught(edited_units, units, [longer]), ("BadEdit", 0, "full"))

    def test_turning_may_be_too_many(self):
        # Turned about, members and mark meet at other letters, so a run more may begin.
        mark = (1,) + (0, 2) * 7 + (3,)
        words = [word for word in every_word(4, 4)
                 if runs(word) == 4 and word[0] in (0, 2) and word[3] == 1]
        units = Units(Book(4, 4, words[:10]), mark)
        self.assertEqual(len(units.pieces), 200)
        turned = sum(runs(word[::-1] + mark[::-1]) for word in units.book)
        self.assertEqual(turned + 10, 210)
        self.assertEqual(caught(edited_units, units, [("turn",)]), ("BadEdit", 0, "full"))

    def test_the_first_wrong_edit_counts(self):
        units = Units(Book(2, 2, [[0, 1]]), [1])
        edits = [("put", [1, 1]), ("strike", [0, 0]), ("kind",), ("mark", 7)]
        self.assertEqual(caught(edited_units, units, edits), ("BadEdit", 1, "lacking"))
        self.assertEqual(caught(edited_units, units, edits[2:]), ("BadEdit", 0, "kind"))


if __name__ == "__main__":
    unittest.main()
