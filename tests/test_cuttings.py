"""lostplaces.cuttings: [9.3], [9.5], [9.6], the ends of [9.7], the marks of [9.8]."""

import unittest

from lostplaces.books import Book
from lostplaces.cuttings import (
    Clash, Told, TwoCuts, clash_fault, count_cuttings, cut_row, cuts_told, ends_fault, ends_told,
    sure_mark,
)
from lostplaces.judged import bears_lost
from lostplaces.restwords import rest_web
from lostplaces.units import Units, doubtful_piece, room_taken, written_row
from lostplaces.words import word_of_text
from tests.helper import (
    NO_NUMBERS, NO_SEQUENCES, caught, chance_words, every_book, every_word, made_of_tuples, numbers,
)
from tests.test_restwords import has_round
from tests.test_units import some_units


def row_of(cutting):
    """The row of a cutting."""
    return tuple(letter for word, _ in cutting for letter in word)


def plain_cuttings(units, row):
    """All cuttings of a row, in the order of their pieces."""
    if not row:
        return [()]
    return [
        (piece,) + rest for piece in units.pieces if row[:len(piece[0])] == piece[0]
        for rest in plain_cuttings(units, row[len(piece[0]):])
    ]


def heads_of_rows(units, most):
    """For each number of letters up to the most all heads of endless rows with so many."""
    heads = [{()}]
    for length in range(1, most + 1):
        heads.append({row for piece in units.pieces for row in heads_behind(piece, heads, length)})
    return heads


def heads_behind(piece, heads, length):
    """All heads of so many letters of endless rows whose cutting begins with the piece."""
    word = piece[0]
    if len(word) >= length:
        return {word[:length]}
    return {word + rest for rest in heads[length - len(word)]}


def agree(units, heads, length):
    """Whether two cuttings with unlike first pieces can agree in so many letters."""
    met = set()
    for piece in units.pieces:
        mine = heads_behind(piece, heads, length)
        if met & mine:
            return True
        met |= mine
    return False


def endless(cutting, many):
    """The first so many letters of an endless cutting (head, round)."""
    head, ring = cutting
    row = list(row_of(head))
    while len(row) < many:
        row += row_of(ring)
    return row[:many]


class Rows(unittest.TestCase):
    """[9.3]."""

    def test_against_all_cuttings(self):
        for units in some_units(2):
            rows = [row for length in range(6) for row in every_word(2, length)]
            rows += [row_of(piece for piece in units.pieces[at::2])[:10] for at in range(3)]
            for row in rows:
                cuttings = plain_cuttings(units, row)
                self.assertEqual(count_cuttings(units, list(row)), len(cuttings))
                self.assertEqual(cut_row(units, list(row)), cuttings[0] if cuttings else None)

    def test_written_rows_can_be_cut(self):
        for units in some_units(3)[::4]:
            if units.book.size > 0:
                members = (units.book.words * 8)[:8]
                row = written_row(units, members, [None, 1] * 4)
                cutting = cut_row(units, row)
                self.assertEqual(row_of(cutting), row)
                self.assertTrue(all(piece in units.pieces for piece in cutting))
                self.assertTrue(made_of_tuples(cutting))

    def test_numbers_of_many_figures(self):
        units = Units(Book(2, 1, [[0], [1]]), [0])
        # Each letter 0 is what both members leave, and each two letters are a unit or two losses.
        row = [0] * 200
        ways = [1, 2]
        while len(ways) <= 200:
            ways.append(2 * ways[-1] + ways[-2])
        self.assertEqual(count_cuttings(units, row), ways[200])
        self.assertGreater(ways[200], 10 ** 40)
        self.assertEqual(cut_row(units, row), (((0,), (0,)),) * 200)

    def test_edges(self):
        units = Units(Book(2, 2, [[0, 0]]), [1])
        self.assertEqual((count_cuttings(units, []), cut_row(units, [])), (1, ()))
        self.assertEqual((count_cuttings(units, [1]), cut_row(units, [1])), (0, None))
        empty = Units(Book(2, 2, []), [])
        self.assertEqual((count_cuttings(empty, []), cut_row(empty, [])), (1, ()))
        self.assertEqual((count_cuttings(empty, [0, 1]), cut_row(empty, [0, 1])), (0, None))

    def test_errors(self):
        units = Units(Book(3, 1, [[0]]), [1])
        for call in (count_cuttings, cut_row):
            for thing in NO_SEQUENCES + ([0] * 201,):
                self.assertEqual(caught(call, units, thing), ("BadWord", -1))
            for bad in (-1, 3) + NO_NUMBERS:
                self.assertEqual(caught(call, units, [2, bad, bad]), ("BadWord", 1))
            self.assertIsNone(caught(call, units, [0] * 200))


class ToldCuts(unittest.TestCase):
    """[9.5], [9.6]."""

    def test_told_or_clash(self):
        waits = set()
        for units in some_units():
            cuts = cuts_told(units)
            web = rest_web(units)
            self.assertEqual(isinstance(cuts, Told), () not in web.rests and not has_round(web))
            if isinstance(cuts, Told):
                self.check_told(units, cuts)
                waits.add(cuts.wait - units.length)
            else:
                self.check_clash(units, cuts)
        self.assertGreater(len(waits), 4)

    def check_told(self, units, cuts):
        """The wait is the least one, and both cuttings show it."""
        self.assertTrue(made_of_tuples((cuts.first, cuts.second)))
        if not units.pieces:
            self.assertEqual(cuts, Told(0, (), ()))
            return
        self.assertGreaterEqual(cuts.wait, units.length)
        self.assertNotEqual(cuts.first[0], cuts.second[0])
        for cutting in (cuts.first, cuts.second):
            self.assertTrue(all(piece in units.pieces for piece in cutting))
            self.assertGreaterEqual(len(row_of(cutting)), cuts.wait - 1)
        agreed = cuts.wait - 1
        self.assertEqual(row_of(cuts.first)[:agreed], row_of(cuts.second)[:agreed])
        most = len(units.pieces) ** (cuts.wait // (units.length - 1) + 1)
        if min(most, units.book.letters ** cuts.wait) < 20000:
            heads = heads_of_rows(units, cuts.wait)
            self.assertFalse(agree(units, heads, cuts.wait))
            self.assertTrue(agree(units, heads, cuts.wait - 1))

    def check_clash(self, units, clash):
        """Both are endless cuttings of one row, and unlike."""
        self.assertIsInstance(clash, Clash)
        self.assertIsNone(clash_fault(units, clash))
        self.assertTrue(made_of_tuples((clash.first, clash.second)))
        for head, ring in (clash.first, clash.second):
            self.assertTrue(ring)
            self.assertTrue(all(piece in units.pieces for piece in head + ring))
        self.assertEqual(endless(clash.first, 500), endless(clash.second, 500))
        first, second = [head + ring * 300 for head, ring in (clash.first, clash.second)]
        self.assertNotEqual(first[:300], second[:300])

    def test_example(self):
        cuts = cuts_told(Units(Book(2, 2, [[0, 0]]), [1]))
        self.assertEqual(cuts.wait, 3)

    def test_a_round_alone(self):
        # The ends are told here, the cuts are not.
        found = 0
        for units in some_units():
            web = rest_web(units)
            if () not in web.rests and has_round(web):
                found += 1
                self.check_clash(units, cuts_told(units))
                self.assertIsNone(ends_told(units))
        self.assertGreater(found, 5)

    def test_rounds_of_several_steps(self):
        # Rounds of 3, 4 and 6 steps; an odd one exchanges the cutting ahead and the one behind.
        for steps, text in (
            (3, "13312 01212 12303 02003 00333"), (3, "13302 10203 03323 02012 01233"),
            (4, "1203 0333 1302 0222"), (4, "12212 12032 02222 02133 13322"),
            (6, "13132 13202 10122 12222 12123 12333"), (6, "030023 002322 020033 003313 010012 001233"),
        ):
            words = [word_of_text(4, word) for word in text.split()]
            units = Units(Book(4, len(words[0]), words), [])
            clash = cuts_told(units)
            self.check_clash(units, clash)
            rounds = len(clash.first[1]) + len(clash.second[1])
            self.assertEqual(rounds % steps, 0)
            self.assertEqual(rounds % 2, 0)

    def test_rounds_beside_dead_ends(self):
        for letters, text, mark in (
            (4, "011 003", ()), (4, "003 022", ()), (4, "22100 10221", (0,)),
            (2, "0111001 0101110", (1,)),
        ):
            words = [word_of_text(letters, word) for word in text.split()]
            units = Units(Book(letters, len(words[0]), words), mark)
            web = rest_web(units)
            going = {rest for rest, _, _ in web.steps}
            self.assertTrue(set(web.rests) - going)
            self.check_clash(units, cuts_told(units))

    def test_waits_where_ways_part(self):
        # From some rest word two ways lead on, and they agree for unlike numbers of letters.
        for letters, wait, text, mark in (
            (2, 10 + 7, "100010 101111 111000", "1100"), (3, 10 + 7, "0122 2120", "000021"),
            (2, 9 + 7, "011100 010111", "001"), (2, 11 + 7, "1010111 1000000", "1010"),
            (2, 10 + 8, "0110100 0100000", "001"), (2, 11 + 9, "1101011 1011010 1000011", "1110"),
        ):
            words = [word_of_text(letters, word) for word in text.split()]
            units = Units(Book(letters, len(words[0]), words), word_of_text(letters, mark))
            cuts = cuts_told(units)
            self.assertEqual(cuts.wait, wait)
            self.check_told(units, cuts)

    def test_most_pieces(self):
        marks = ((0, 1) * 8, (0,) * 10, (3, 3, 2, 2, 1))
        for length, many in ((4, 10), (6, 12), (3, 30), (5, 16)):
            words = chance_words(length, 4, length, many)
            for mark in marks:
                if caught(Units, Book(4, length, words), mark) is None:
                    units = Units(Book(4, length, words), mark)
                    cuts = cuts_told(units)
                    if isinstance(cuts, Clash):
                        self.check_clash(units, cuts)
                    else:
                        self.check_told(units, cuts)

    def test_long_waits(self):
        for length in (5, 9, 20):
            units = Units(Book(2, length, [[0] * length]), [1, 0, 1, 1])
            cuts = cuts_told(units)
            if isinstance(cuts, Told):
                self.check_told(units, cuts)
            else:
                self.check_clash(units, cuts)


class ClashJudge(unittest.TestCase):
    """[9.6]."""

    def setUp(self):
        # Both members leave 00, and 000 is a piece beside it.
        self.units = Units(Book(2, 2, [[0, 0], [0, 1]]), [0])
        self.a = ((0, 0), (0, 0))
        self.b = ((0, 0), (0, 1))
        self.long = ((0, 0, 0), (0, 0))
        self.other = ((0, 1, 0), (0, 1))

    def fault(self, first, second):
        """The fault of a clash of two couples."""
        return clash_fault(self.units, Clash(first, second))

    def test_right_ones(self):
        self.assertIsNone(self.fault(((), (self.a,)), ((), (self.b,))))
        self.assertIsNone(self.fault(((), (self.a,)), ((), (self.long,))))
        self.assertIsNone(self.fault(((self.long,), (self.a,)), ((self.a,), (self.a, self.b))))
        self.assertIsNone(self.fault(((self.other,), (self.a,)), ((self.other,), (self.long,))))

    def test_pieces(self):
        fine = ((), (self.a,))
        for bad in (((1, 1), (0, 0)), ((0, 0), (1, 1)), ((0, 0), (0, 0), ()), (), 7, None,
                    ((False, 0), (0, 0)), ((0, 0), (0, True)), ((0, 0), (0, 1.0))):
            for wrong in (((bad,), (self.a,)), ((), (bad,)), ((), (self.a, bad))):
                self.assertEqual(self.fault(wrong, ((), (self.b,))), "piece")
                self.assertEqual(self.fault(fine, wrong), "piece")
        self.assertEqual(self.fault(((self.a,), ()), fine), "piece")
        self.assertEqual(self.fault(fine, ((self.a,), ())), "piece")

    def test_rows(self):
        self.assertEqual(self.fault(((), (self.a,)), ((), (self.other,))), "row")
        self.assertEqual(self.fault(((self.other,), (self.a,)), ((), (self.a,))), "row")
        late = (self.a,) * 20 + (self.other,)
        self.assertEqual(self.fault(((), (self.a,)), ((), late)), "row")
        self.assertEqual(self.fault(((), (self.a,)), (late, (self.a,))), "row")

    def test_cuts(self):
        self.assertEqual(self.fault(((), (self.a,)), ((), (self.a,))), "cuts")
        self.assertEqual(self.fault(((), (self.a,)), ((self.a,), (self.a, self.a))), "cuts")
        one = ((self.b,), (self.a, self.b))
        self.assertEqual(self.fault(one, ((), (self.b, self.a))), "cuts")
        self.assertIsNone(self.fault(one, ((), (self.a, self.b))))

    def test_against_longer_heads(self):
        row = numbers(9)
        pieces = self.units.pieces
        for _ in range(300):
            parts = [tuple(pieces[next(row) % 3] for _ in range(next(row) % 3 + low))
                     for low in (0, 1, 0, 1)]
            first, second = (parts[0], parts[1]), (parts[2], parts[3])
            alike = endless(first, 100) == endless(second, 100)
            same = (parts[0] + parts[1] * 50)[:50] == (parts[2] + parts[3] * 50)[:50]
            wanted = "row" if not alike else "cuts" if same else None
            self.assertEqual(self.fault(first, second), wanted)


class Ends(unittest.TestCase):
    """[9.7]."""

    def test_told_or_two_cuts(self):
        for units in some_units():
            cuts = ends_told(units)
            self.assertEqual(cuts is None, () not in rest_web(units).rests)
            if isinstance(cuts_told(units), Told):
                self.assertIsNone(cuts)
            if cuts is None:
                taken, whole = room_taken(units)
                self.assertLessEqual(taken, whole)
                continue
            self.assertIsNone(ends_fault(units, cuts))
            self.assertEqual(row_of(cuts.first), row_of(cuts.second))
            self.assertNotEqual(cuts.first, cuts.second)
            self.assertTrue(made_of_tuples((cuts.first, cuts.second)))
            self.assertGreater(count_cuttings(units, row_of(cuts.first)), 1)

    def test_told_ends_by_all_rows(self):
        for units in some_units(2)[::5]:
            if ends_told(units) is None:
                for length in range(9):
                    for row in every_word(2, length):
                        self.assertLessEqual(count_cuttings(units, row), 1)

    def test_judge(self):
        units = Units(Book(2, 2, [[0, 0], [0, 1]]), [0])
        a, b = ((0, 0), (0, 0)), ((0, 0), (0, 1))
        long = ((0, 0, 0), (0, 0))
        self.assertIsNone(ends_fault(units, TwoCuts((a,), (b,))))
        self.assertIsNone(ends_fault(units, TwoCuts((long, long), (a, a, a))))
        for bad in (((1, 1), (0, 0)), (), 7, ((0, False), (0, 0)), ((0, 0), (0, 0), 1)):
            self.assertEqual(ends_fault(units, TwoCuts((bad,), (a,))), "piece")
            self.assertEqual(ends_fault(units, TwoCuts((a,), (b, bad))), "piece")
        self.assertEqual(ends_fault(units, TwoCuts((a,), (b, b))), "row")
        self.assertEqual(ends_fault(units, TwoCuts((a,), ())), "row")
        self.assertEqual(ends_fault(units, TwoCuts((a, b), (a, b))), "cuts")
        self.assertEqual(ends_fault(units, TwoCuts((), ())), "cuts")

    def test_no_member(self):
        self.assertIsNone(ends_told(Units(Book(2, 3, []), [])))


class Marks(unittest.TestCase):
    """[9.8]."""

    def test_a_unit_that_ends_as_one_begins(self):
        for units in some_units():
            ends = {(member + units.mark)[-1] for member in units.book}
            firsts = {(member + units.mark)[0] for member in units.book}
            if ends & firsts:
                self.assertIsNotNone(ends_told(units))
                self.assertIsInstance(cuts_told(units), Clash)

    def test_a_last_letter_of_its_own(self):
        books = [book for book in every_book(2, 2) + [
            Book(3, length, chance_words(length, 3, length, 3)) for length in (2, 3, 4)]]
        for book in books:
            for mark in ((3,), (0, 3), (1, 0, 3), (3, 3)):
                units = Units(Book(4, book.length, book.words), mark)
                cuts = cuts_told(units)
                self.assertEqual(isinstance(cuts, Told), doubtful_piece(units) is None)
                if isinstance(cuts, Told):
                    self.assertEqual(cuts.wait, units.length if book.size > 0 else 0)

    def test_when_there_is_a_mark(self):
        for book in every_book(2, 1) + every_book(2, 2) + every_book(3, 1) + every_book(2, 3)[::5]:
            mark = sure_mark(book)
            firsts = {word[0] for word in book}
            clear = book.size < 2 or bears_lost(book, 1)
            self.assertEqual(mark is not None, clear and len(firsts) < book.letters)
            if mark is None:
                for length in range(max(0, 2 - book.length), 4):
                    for other in every_word(book.letters, length)[::2]:
                        units = Units(book, other)
                        self.assertIsInstance(cuts_told(units), Clash)
                        self.assertIsNotNone(ends_told(units))
            else:
                z = min(set(range(book.letters)) - firsts)
                y = 1 if z == 0 else 0
                self.assertEqual(mark, (y,) * (book.length + 2) + (z, z))
                self.assertIsInstance(cuts_told(Units(book, mark)), Told)

    def test_bounds(self):
        self.assertEqual(sure_mark(Book(2, 2, [[0, 0]])), (0, 0, 0, 0, 1, 1))
        self.assertEqual(sure_mark(Book(2, 0, [])), (1, 1, 0, 0))
        self.assertEqual(sure_mark(Book(4, 0, [()])), (1, 1, 0, 0))
        self.assertIsInstance(cuts_told(Units(Book(4, 0, [()]), (1, 1, 0, 0))), Told)
        self.assertEqual(sure_mark(Book(3, 10, [])), (1,) * 12 + (0, 0))
        self.assertIsNone(sure_mark(Book(2, 10, [[0] * 10, [1] * 10])))
        book = Book(3, 10, [[0] * 10, [1] * 10])
        self.assertEqual(sure_mark(book), (0,) * 12 + (2, 2))
        self.assertIsInstance(cuts_told(Units(book, sure_mark(book))), Told)
        for length in (11, 24):
            self.assertEqual(caught(sure_mark, Book(2, length, [])), ("BadNumber",))

    def test_long_books(self):
        for seed in range(12):
            words = [(seed % 3,) + word for word in chance_words(seed, 4, 9, 6)]
            book = Book(4, 10, words)
            mark = sure_mark(book)
            if mark is not None and caught(Units, book, mark) is None:
                self.assertIsInstance(cuts_told(Units(book, mark)), Told)


class Kinds(unittest.TestCase):
    def test_numbers_are_no_rows(self):
        # What a wrong kind of row is does not hang on the units.
        units = Units(Book(2, 0, []), [0, 0])
        for thing in NO_NUMBERS:
            if not isinstance(thing, (list, tuple)):
                self.assertEqual(caught(count_cuttings, units, thing), ("BadWord", -1))


if __name__ == "__main__":
    unittest.main()
