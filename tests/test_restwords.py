"""lostplaces.restwords: [9.4]."""

import unittest

from lostplaces.books import Book
from lostplaces.restwords import Web, rest_web
from lostplaces.units import Units, doubtful_piece
from tests.helper import chance_words, made_of_tuples
from tests.test_units import some_units


def begins(head, word):
    """Whether one word begins the other one."""
    return word[:len(head)] == head


def plain_web(units):
    """Starts, rest words and steps by their definitions, piece by piece."""
    pieces = units.pieces
    starts = []
    for at, one in enumerate(pieces):
        for to, other in enumerate(pieces):
            if at < to and begins(one[0], other[0]):
                starts.append((one, other, other[0][len(one[0]):]))
    rests = {rest for _, _, rest in starts}
    while True:
        steps = []
        for rest in sorted(rests):
            for piece in pieces if rest else ():
                if begins(rest, piece[0]):
                    steps.append((rest, piece, piece[0][len(rest):]))
                elif begins(piece[0], rest):
                    steps.append((rest, piece, rest[len(piece[0]):]))
        more = rests | {beyond for _, _, beyond in steps}
        if more == rests:
            return Web(tuple(starts), tuple(sorted(rests)), tuple(steps))
        rests = more


def has_round(web):
    """Whether some rest word leads back to itself."""
    for start in web.rests:
        met = {beyond for rest, _, beyond in web.steps if rest == start}
        while True:
            more = met | {beyond for rest, _, beyond in web.steps if rest in met}
            if more == met:
                break
            met = more
        if start in met:
            return True
    return False


class Webs(unittest.TestCase):
    def test_against_the_definition(self):
        kinds = set()
        for units in some_units():
            web = rest_web(units)
            self.assertEqual(web, plain_web(units))
            self.assertTrue(made_of_tuples((web.starts, web.rests, web.steps)))
            kinds.add(((() in web.rests), has_round(web)))
        self.assertEqual(kinds, {(False, False), (False, True), (True, False), (True, True)})

    def test_starts(self):
        for units in some_units():
            web = rest_web(units)
            self.assertEqual(bool(web.starts), units.book.size > 0)
            for one, other, rest in web.starts:
                self.assertIn(len(rest), (0, 1))
                if rest:
                    self.assertEqual(rest, (other[1] + units.mark)[-1:])
            empty = any(rest == () for _, _, rest in web.starts)
            self.assertEqual(empty, doubtful_piece(units) is not None)

    def test_example(self):
        web = rest_web(Units(Book(2, 2, [[0, 0]]), [1]))
        self.assertEqual(web.starts, ((((0, 0), (0, 0)), ((0, 0, 1), (0, 0)), (1,)),))
        self.assertEqual((web.rests, web.steps), (((1,),), ()))

    def test_no_member(self):
        web = rest_web(Units(Book(3, 2, []), [2, 1]))
        self.assertEqual(web, Web((), (), ()))

    def test_shortest_and_longest_units(self):
        units = Units(Book(2, 2, [[0, 1], [1, 0]]), [])
        self.assertEqual(rest_web(units), plain_web(units))
        for mark in ((), (0,) * 12, (0, 1) * 6, (1,) * 12):
            for words in (chance_words(4, 2, 12, 3), [(0,) * 12], [(0, 1) * 6, (1, 0) * 6]):
                units = Units(Book(2, 12, words), mark)
                self.assertEqual(rest_web(units), plain_web(units))


if __name__ == "__main__":
    unittest.main()
