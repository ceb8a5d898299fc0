"""lostplaces.mends: [10.7], [10.8]."""

import unittest
from itertools import combinations

from lostplaces.books import Book
from lostplaces.cuttings import Told, cuts_told
from lostplaces.doubles import runs_borne
from lostplaces.judged import borne_of
from lostplaces.mends import find_mends, find_spoilers, goal_met
from lostplaces.units import Units
from tests.helper import NO_NUMBERS, NO_SEQUENCES, caught, every_word, made_of_tuples, numbers
from tests.test_edits import chance_edits, plain_edited
from tests.test_units import some_units

BAD_GOALS = NO_SEQUENCES + (
    [], (), ["bears"], ["runs"], ["size"], ["wait"], ["cuts", 1], ["bears", 1, 1], ["told"],
    ["Bears", 1], [None, 1], [["bears"], 1], ["bears", -1], ["size", -1], ["wait", -1],
    ["runs", -1], "cuts", [True], ["lost", 0],
) + tuple(["bears", bad] for bad in NO_NUMBERS) + tuple(["wait", bad] for bad in NO_NUMBERS)
GOALS = [(word, number) for word in ("bears", "runs", "size", "wait") for number in range(8)]
GOALS += [["cuts"], ["wait", 11], ["size", 64], ["size", 10 ** 50], ["bears", 10 ** 50]]


def plain_met(units, goal):
    """Whether a good goal is met, by the words of [10.7]."""
    cuts = cuts_told(units)
    if goal[0] == "cuts":
        return isinstance(cuts, Told)
    if goal[0] == "wait":
        return isinstance(cuts, Told) and cuts.wait <= goal[1]
    return {"bears": borne_of(units.book), "runs": runs_borne(units.book),
            "size": len(units.book.words)}[goal[0]] >= goal[1]


def plain_lots(units, edits, goals, met):
    """The lots with the fewest edits, by trying all."""
    for many in range(len(edits) + 1):
        found = []
        for lot in combinations(range(len(edits)), many):
            edited = plain_edited(units, [edits[index] for index in lot])
            if edited and all(plain_met(edited, goal) for goal in goals) == met:
                found.append(lot)
        if found:
            return tuple(found)
    return ()


class Goals(unittest.TestCase):
    """[10.7]."""

    def test_against_what_the_units_are(self):
        seen = {}
        for units in some_units(2):
            for goal in GOALS:
                met = goal_met(units, goal)
                self.assertIs(met, plain_met(units, goal))
                seen.setdefault(goal[0], set()).add(met)
        self.assertEqual(seen, {word: {True, False}
                                for word in ("bears", "runs", "size", "wait", "cuts")})

    def test_bounds(self):
        units = Units(Book(2, 2, [[0, 0]]), [1])
        for goal, met in ((["wait", 3], True), (["wait", 2], False), (["size", 1], True),
                          (["size", 2], False), (["bears", 2], True), (["bears", 3], False),
                          (("runs", 2), True), (("runs", 3), False), (("cuts",), True)):
            self.assertIs(goal_met(units, goal), met)
        self.assertIs(goal_met(Units(Book(2, 2, []), [1]), ("wait", 0)), True)

    def test_no_goals(self):
        units = Units(Book(2, 2, [[0, 0]]), [1])
        for thing in BAD_GOALS:
            self.assertEqual(caught(goal_met, units, thing), ("BadGoal", -1))


class Mends(unittest.TestCase):
    """[10.8]."""

    def test_against_all_lots(self):
        row = numbers(83)
        sizes = {True: set(), False: set()}
        for units in some_units(2)[::2]:
            for many in (1, 3, 5):
                edits = chance_edits(units, row, many)
                goals = [GOALS[next(row) % len(GOALS)] for _ in range(next(row) % 4 + 1)]
                for met, call in ((True, find_mends), (False, find_spoilers)):
                    wanted = plain_lots(units, edits, goals, met)
                    found = call(units, edits, goals)
                    self.assertEqual(found, wanted)
                    self.assertTrue(made_of_tuples(found))
                    sizes[met].add(len(found[0]) if found else None)
        self.assertTrue(sizes[True] >= {None, 0, 1, 2})
        self.assertTrue(sizes[False] >= {None, 0, 1})

    def test_spoilers_of_two_edits(self):
        units = Units(Book(2, 2, [[0, 0], [1, 1]]), [1])
        edits = [("strike", [0, 0]), ("turn",), ("strike", [1, 1]), ("strike", [0, 0])]
        self.assertEqual(find_spoilers(units, edits, [("size", 1)]), ((0, 2), (2, 3)))
        self.assertEqual(find_spoilers(units, edits, [("size", 1), ("runs", 2)]), ((0, 2), (2, 3)))

    def test_six_edits_and_four_goals(self):
        units = Units(Book(2, 3, [[0, 0, 0]]), [0])
        edits = [("mark", [0, 0, 0, 0, 0, 1, 1]), ("put", [0, 1, 1]), ("strike", [0, 0, 0]),
                 ("turn",), ("put", [0, 0, 1]), ("mark", [1, 1])]
        goals = [("cuts",), ["size", 2], ("bears", 1), ["wait", 12]]
        self.assertEqual(find_mends(units, edits, goals), plain_lots(units, edits, goals, True))
        self.assertEqual(find_mends(units, edits, goals), ((0, 1),))
        self.assertEqual(find_spoilers(units, edits, goals), ((),))

    def test_all_edits_are_needed(self):
        units = Units(Book(2, 3, [[0, 0, 0]]), [1])
        edits = [("put", word) for word in every_word(2, 3)[1:7]]
        for many in range(1, 7):
            goals = [("size", many + 1)]
            self.assertEqual(find_mends(units, edits[:many], goals), (tuple(range(many)),))
        edits = [("put", [1, 1, 1]), ("strike", [1, 1, 1]), ("strike", [0, 0, 0])]
        self.assertEqual(find_spoilers(units, edits[2:], [("size", 1)]), ((0,),))

    def test_all_met_and_none(self):
        units = Units(Book(2, 2, [[0, 0]]), [1])
        edits = [("mark", [0]), ("put", [1, 1])]
        self.assertEqual(find_mends(units, edits, [("cuts",)]), ((),))
        self.assertEqual(find_spoilers(units, edits, [("cuts",)]), ((0,), (1,)))
        self.assertEqual(find_mends(units, edits, [("size", 3)]), ())
        self.assertEqual(find_spoilers(units, edits, [("size", 0)]), ())

    def test_wrong_edits_are_passed_by(self):
        units = Units(Book(2, 2, [[0, 0]]), [1])
        edits = (None, ["put", [0, 0]], ["put", [0]], ["strike"], ("put", [1, 1]), "turn")
        self.assertEqual(find_mends(units, edits, [("size", 2)]), ((4,),))
        self.assertEqual(find_mends(units, edits, [("size", 3)]), ())
        # Behind the other one an edit can be right, though it is wrong alone.
        edits = [("strike", [0, 0]), ("put", [0, 0])]
        self.assertEqual(find_spoilers(units, edits, [("size", 1)]), ((0,),))
        edits = [("put", [1, 1]), ("strike", [1, 1]), ("mark", [0, 1])]
        self.assertEqual(find_mends(units, edits[1:], [("size", 2)]), ())
        self.assertEqual(find_mends(units, edits, [("size", 1), ("wait", 4), ("cuts",)]), ((),))

    def test_errors_in_order(self):
        units = Units(Book(2, 2, [[0, 0]]), [1])
        for call in (find_mends, find_spoilers):
            for thing in NO_SEQUENCES + ([], (), [("turn",)] * 7):
                self.assertEqual(caught(call, units, thing, None), ("BadEdit", -1, "many"))
            for thing in NO_SEQUENCES + ([], (), [("cuts",)] * 5, [None] * 5):
                self.assertEqual(caught(call, units, [None], thing), ("BadGoal", -1))
            for thing in BAD_GOALS:
                self.assertEqual(caught(call, units, [None], [("cuts",), thing, thing]),
                                 ("BadGoal", 1))
            self.assertIsNone(caught(call, units, [("turn",)] * 6, [("cuts",)] * 4))

    def test_full_books(self):
        words = [word for word in every_word(4, 4) if word[3] != 0][:24]
        units = Units(Book(4, 4, words), [0, 1])
        edits = [("put", word) for word in every_word(4, 4)[100:105]] + [("mark", [0] * 3)]
        goals = [("size", 26), ("runs", 0), ("bears", 0), ("size", 1)]
        lots = find_mends(units, edits, goals)
        self.assertEqual(lots, plain_lots(units, edits, goals, True))
        self.assertEqual(len(lots[0]), 2)


if __name__ == "__main__":
    unittest.main()
