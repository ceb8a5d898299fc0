"""lostplaces.bench: [10.9]."""

import unittest

from lostplaces.bench import Bench, Tried
from lostplaces.bests import filled_book
from lostplaces.books import Book
from lostplaces.cuttings import Told, cuts_told
from lostplaces.doubles import runs_borne
from lostplaces.edits import edited_units
from lostplaces.judged import borne_of
from lostplaces.mends import goal_met
from lostplaces.units import Units
from tests.helper import NO_NUMBERS, NO_SEQUENCES, caught, every_word, made_of_tuples, numbers
from tests.test_edits import chance_edits
from tests.test_mends import BAD_GOALS, GOALS
from tests.test_units import runs, some_units


def state_of(bench):
    """What a bench tells of itself."""
    return (bench.present.book.words, bench.present.mark, bench.log, len(bench))


class Deeds(unittest.TestCase):
    def test_a_new_bench(self):
        units = Units(Book(2, 2, [[0, 0]]), [1])
        bench = Bench(units)
        self.assertEqual((bench.present, bench.log, len(bench)), (units, (), 0))

    def test_each_deed(self):
        bench = Bench(Units(Book(2, 2, [[0, 0]]), [1]))
        self.assertIsNone(bench.do_edit(("put", [0, 1])))
        self.assertEqual(bench.present, Units(Book(2, 2, [[0, 0], [0, 1]]), [1]))
        self.assertIsNone(bench.do_edit(["turn"]))
        self.assertEqual(bench.present, Units(Book(2, 2, [[0, 0], [1, 0]]), [1]))
        self.assertIsNone(bench.do_edit(["strike", (1, 0)]))
        self.assertIsNone(bench.do_edit(("mark", [])))
        self.assertEqual(bench.present, Units(Book(2, 2, [[0, 0]]), []))
        self.assertIsNone(bench.do_fill(1))
        self.assertEqual(bench.present, Units(Book(2, 2, [[0, 0], [1, 1]]), []))
        self.assertEqual(bench.log, ("put", "turn", "strike", "mark", "fill"))
        self.assertEqual(len(bench), 5)
        self.assertTrue(made_of_tuples(bench.log))

    def test_against_edited_units_and_back(self):
        row = numbers(31)
        for units in some_units(2)[::2]:
            bench = Bench(units)
            states = [units]
            words = []
            for edit in chance_edits(units, row, 12):
                wrong = caught(edited_units, states[-1], [edit])
                before = state_of(bench)
                self.assertEqual(caught(bench.do_edit, edit), wrong)
                if wrong is None:
                    states.append(edited_units(states[-1], [edit]))
                    words.append(edit[0])
                else:
                    self.assertEqual(state_of(bench), before)
                number = next(row) % 3
                wrong = caught(filled_book, states[-1].book, number)
                before = state_of(bench)
                self.assertEqual(caught(bench.do_fill, number), wrong)
                if wrong is None:
                    states.append(Units(filled_book(states[-1].book, number), states[-1].mark))
                    words.append("fill")
                else:
                    self.assertEqual(state_of(bench), before)
                self.assertEqual(bench.present, states[-1])
                self.assertEqual((bench.log, len(bench)), (tuple(words), len(words)))
            while words:
                self.assertIsNone(bench.take_back())
                words.pop()
                states.pop()
                self.assertEqual(bench.present, states[-1])
                self.assertEqual((bench.log, len(bench)), (tuple(words), len(words)))
            self.assertEqual(caught(bench.take_back), ("NothingDone",))
            self.assertEqual(state_of(bench), (units.book.words, units.mark, (), 0))

    def test_wrong_edits(self):
        bench = Bench(Units(Book(2, 2, [[0, 0]]), [1]))
        bench.do_edit(("turn",))
        before = state_of(bench)
        for edit, what in (
            (None, "kind"), ([], "kind"), (["turn", 1], "kind"), (("fill", 1), "kind"),
            (("put", [0]), "word"), (("put", [0, 0]), "there"), (("strike", [0, 1]), "lacking"),
            (("mark", [2]), "mark"), (("mark", [1] * 23), "mark"),
        ):
            self.assertEqual(caught(bench.do_edit, edit), ("BadEdit", 0, what))
            self.assertEqual(state_of(bench), before)

    def test_fill_errors_in_order(self):
        bench = Bench(Units(Book(2, 9, [[0] * 9, [0] * 8 + [1]]), [1]))
        before = state_of(bench)
        for bad in (0, -1, 10) + NO_NUMBERS:
            self.assertEqual(caught(bench.do_fill, bad), ("BadNumber",))
        self.assertEqual(caught(bench.do_fill, 1), ("NotBorne", 1))
        self.assertEqual(state_of(bench), before)
        bench.do_edit(("strike", [0] * 9))
        before = state_of(bench)
        self.assertEqual(caught(bench.do_fill, 1), ("TooMany", 512))
        self.assertEqual(state_of(bench), before)

    def test_a_fill_that_makes_too_many_pieces(self):
        units = Units(Book(2, 8, []), [0, 1] * 4)
        bench = Bench(units)
        filled = filled_book(units.book, 1)
        pieces = filled.size + sum(runs(word + units.mark) for word in filled)
        self.assertGreater(pieces, 200)
        self.assertEqual(caught(bench.do_fill, 1), ("BadEdit", 0, "full"))
        self.assertEqual(state_of(bench), ((), (0, 1) * 4, (), 0))
        bench.do_edit(("mark", []))
        self.assertIsNone(bench.do_fill(1))
        self.assertEqual(bench.present.book, filled)

    def test_an_edit_that_makes_too_many_pieces(self):
        mark = (0, 1) * 8
        three = [word for word in every_word(4, 4) if word[3] != 0 and runs(word) == 3][:10]
        bench = Bench(Units(Book(4, 4, three), mark))
        self.assertEqual(caught(bench.do_edit, ("put", [0] * 4)), ("BadEdit", 0, "full"))
        self.assertEqual(len(bench), 0)

    def test_nothing_of_a_list_is_kept(self):
        bench = Bench(Units(Book(2, 2, [[0, 0]]), [1]))
        word, mark = [1, 1], [0, 1]
        edit, marking = ["put", word], ["mark", mark]
        bench.do_edit(edit)
        bench.do_edit(marking)
        before = state_of(bench)
        word[0], mark[0] = 0, 1
        edit.append(3)
        edit[0] = "strike"
        marking[0] = "turn"
        self.assertEqual(state_of(bench), before)
        self.assertEqual(before, (((0, 0), (1, 1)), (0, 1), ("put", "mark"), 2))


class Trials(unittest.TestCase):
    def test_against_the_units(self):
        row = numbers(37)
        tried = 0
        for units in some_units(2)[::2]:
            bench = Bench(units)
            for many in (0, 1, 2, 4):
                edits = chance_edits(units, row, many)
                goal = GOALS[next(row) % len(GOALS)]
                before = state_of(bench)
                wrong = caught(edited_units, units, edits)
                self.assertEqual(caught(bench.trial, edits, goal=goal), wrong)
                if wrong is None:
                    behind = edited_units(units, edits)
                    parts = (behind.book.size, borne_of(behind.book), runs_borne(behind.book),
                             isinstance(cuts_told(behind), Told))
                    self.assertEqual(bench.trial(edits), Tried(*parts, None))
                    result = bench.trial(edits, goal=goal)
                    self.assertEqual(result, Tried(*parts, goal_met(behind, goal)))
                    self.assertIsInstance(result.told, bool)
                    self.assertIsInstance(result.met, bool)
                    tried += 1
                self.assertEqual(state_of(bench), before)
        self.assertGreater(tried, 100)

    def test_about_the_units_as_they_stand(self):
        bench = Bench(Units(Book(2, 2, [[0, 0]]), [1]))
        bench.do_edit(("put", [1, 1]))
        self.assertEqual(bench.trial([]), Tried(2, 1, 2, False, None))
        self.assertEqual(bench.trial([("strike", [1, 1])], goal=("wait", 3)),
                         Tried(1, 2, 2, True, True))
        self.assertEqual(bench.log, ("put",))

    def test_errors_in_order(self):
        bench = Bench(Units(Book(2, 2, [[0, 0]]), [1]))
        for thing in NO_SEQUENCES + ([("turn",)] * 13,):
            self.assertEqual(caught(bench.trial, thing, goal=7), ("BadEdit", -1, "many"))
        self.assertEqual(caught(bench.trial, [("turn",), ("put", [0, 0])], goal=7),
                         ("BadEdit", 1, "there"))
        for thing in BAD_GOALS:
            if thing is not None:
                self.assertEqual(caught(bench.trial, [("turn",)], goal=thing), ("BadGoal", -1))
        self.assertEqual(len(bench), 0)
        self.assertIsNone(bench.trial([("turn",)] * 12).met)


if __name__ == "__main__":
    unittest.main()
