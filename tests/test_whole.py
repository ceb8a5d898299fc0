"""The whole program: [0.1], [0.2], [0.4], [0.5], [0.7] over all modules."""

import copy
import importlib
import inspect
import types
import unittest

from lostplaces import errors
from lostplaces.bench import Bench
from lostplaces.books import Book
from lostplaces.cuttings import Clash, TwoCuts, cuts_told
from lostplaces.judged import NearPair
from lostplaces.manyletters import ManyBook
from lostplaces.mixes import MixClash
from lostplaces.orderbooks import OrderBook
from lostplaces.runbooks import LengthBook
from lostplaces.streams import Stream
from lostplaces.sums import SumBook
from lostplaces.units import Units
from lostplaces.weights import WeightBook
from lostplaces.wrongs import WrongBook
from tests.helper import caught
from tests.test_interface import CLASSES, FUNCTIONS, split_calls, thing_of

RESULTS = {
    "judged.NearPair": "one other below above", "judged.Thinned": "book rows",
    "mixes.MixClash": "one other word", "perfects.Uneven": "word above",
    "wrongs.Read": "what member", "severals.TooClose": "one other",
    "doubles.RunPair": "one other apart longer shorter", "runbooks.SumsClash": "one other",
    "restwords.Web": "starts rests steps", "cuttings.Told": "wait first second",
    "cuttings.Clash": "first second", "cuttings.TwoCuts": "first second",
    "bests.Best": "number book", "bench.Tried": "many borne runs told met",
}
KEPT = {
    "books.Book": "letters length words size", "sums.SumBook": "length modulus rest",
    "wrongs.WrongBook": "length rest modulus size",
    "manyletters.ManyBook": "letters length rest total size",
    "weights.WeightBook": "letters weights length modulus rest",
    "orderbooks.OrderBook": "length modulus rest",
    "runbooks.LengthBook": "shape length weights modulus rest",
    "units.Units": "book mark length pieces", "streams.Stream": "told behind heard",
    "bench.Bench": "present",
}

BOOK = Book(2, 4, [[0, 0, 0, 0], [0, 1, 1, 0], [1, 0, 0, 1], [1, 1, 1, 1]])
SUMS = SumBook(4, 5, 0)
MANY = ManyBook(3, 3, 0, 1)
WEIGHED = WeightBook(2, [1, 2, 4, 7], 12, 0)
ORDERS = OrderBook(3, 3, 0)
RUNS = LengthBook([0, 1], 4, [1, 2], 2, 0)
SHORT = Book(2, 2, [[0, 0]])
UNITS = Units(SHORT, [1])
CLASHING = Units(Book(2, 2, [[0, 0], [0, 1]]), [0])

# One good call of each function of the interface, with lists wherever it takes sequences.
CALLS = {
    "words": [
        ("is_whole", 3), ("check_number", 3, 1, 4), ("check_letters", 2), ("power_of", 2, 5),
        ("choose_of", 5, 2), ("check_word", 2, [0, 1]), ("word_text", [0, 1]),
        ("word_of_text", 2, "01"), ("letter_lost", [0, 1], 1), ("letter_put", [0, 1], 1, 3),
        ("turned_word", [0, 1]), ("contrary_word", [0, 1]),
    ],
    "runs": [
        ("count_runs", [0, 1]), ("shape_of", [0, 1, 1]), ("lengths_of", [0, 1, 1]),
        ("check_shape", [0, 1]), ("word_of_runs", [0, 1], [2, 1]),
    ],
    "below": [
        ("below_words", [0, 1, 1], 1), ("below_count", [0, 1, 1], 1), ("greatest_below", 2, 4, 2),
        ("below_bounds", 3, 1), ("below_places", [0, 1], [0, 0, 1]),
    ],
    "above": [("above_words", 2, [0, 1], 1), ("above_count", 2, 3, 1)],
    "commons": [
        ("common_length", [0, 1], [1, 0]), ("common_word", [0, 1], [1, 0]),
        ("shortest_above", [0, 1], [1, 0]), ("shortest_fault", [0, 1], [1, 0], [0, 1, 0]),
        ("come_to", 2, [0, 1], 1, 1),
    ],
    "books": [("check_member", BOOK, [0, 1, 1, 0])],
    "judged": [
        ("borne_of", BOOK), ("bears_lost", BOOK, 1), ("couple_counts", BOOK), ("near_pair", BOOK, 2),
        ("pair_fault", BOOK, 2, NearPair((0, 0, 0, 0), (0, 1, 1, 0), (0, 0), (0, 0, 0, 1, 1, 0))),
        ("thinned_book", BOOK, 2), ("all_readings", BOOK, [0, 0, 1], 1),
        ("read_by_book", BOOK, [0, 0, 1], 1),
    ],
    "mixes": [
        ("check_mix", 3, [1, 0, 0]), ("mixed_words", 2, [0, 1], [1, 0, 1]),
        ("comes_by_mix", [0, 1], [1, 0, 0], [1]), ("least_mix", [0, 1], [1, 0]), ("book_mix", BOOK),
        ("bears_mixes", BOOK, [1, 0, 0], [1, 0, 0]), ("bears_mix", BOOK, [1, 0, 0]),
        ("mix_clash", BOOK, [2, 0, 0], [2, 0, 0]),
        ("mix_fault", BOOK, [2, 0, 0], [2, 0, 0], MixClash((0, 0, 0, 0), (0, 1, 1, 0), (0, 0))),
    ],
    "booktexts": [("book_text", BOOK), ("book_of_text", "2 2: 11 00")],
    "sums": [
        ("place_sum", [0, 1]), ("lifted_word", [0, 1], 1), ("lowered_word", [0, 1], 1),
        ("sum_members", SUMS), ("modulus_clash", 4, 3, 1),
    ],
    "readers": [
        ("read_lost", SUMS, [0, 0, 1]), ("read_put", SUMS, [0, 0, 0, 0, 1]),
        ("read_any", SUMS, [0, 0, 1]), ("unread_word", SumBook(4, 6, 5)),
        ("place_of_loss", SUMS, [0, 0, 1]), ("place_of_put", SUMS, [0, 0, 0, 0, 1]),
        ("near_members", SUMS, [0, 0, 1, 1]),
    ],
    "perfects": [
        ("shares_of", SUMS), ("book_of_sums", SUMS), ("members_above", BOOK, [0, 0, 1]),
        ("uneven_word", BOOK.struck([0, 0, 0, 0])), ("is_perfect", BOOK), ("perfect_books", 2, 3),
    ],
    "divisors": [
        ("divisors_of", 12), ("phi_of", 12), ("mu_of", 12), ("common_divisor", 12, 8),
        ("odd_part", 12), ("ram_of", 12, 2),
    ],
    "sizes": [
        ("size_of", 4, 1), ("size_by_ones", 4, 1, 2), ("size_by_table", 4, 3, 1), ("book_sizes", 4),
        ("extremes_of", 4),
    ],
    "rings": [
        ("rotations_of", [0, 1]), ("least_rotation", [1, 0]), ("repeats_of", [1, 0]),
        ("odd_rings", 4), ("single_rings", 4), ("rings_for", 4, 1),
    ],
    "numbering": [
        ("count_from", SUMS, [0, 1]), ("member_at", SUMS, 1), ("number_of", SUMS, [0, 1, 1, 0]),
    ],
    "wrongs": [
        ("wrong_members", WrongBook(4, 5)), ("head_book", WrongBook(4, 5)),
        ("checked_word", WrongBook(4, 5), [0, 1, 1]), ("read_wrong", WrongBook(4, 5), [1, 0, 1, 1]),
        ("wrong_place", WrongBook(4, 5), [1, 0, 1, 1]), ("rests_that_read", 2, [0, 1]),
        ("wrong_clash", 4, 5),
    ],
    "rises": [("rises_of", [0, 1, 0]), ("rise_word", [0, 1, 0]), ("rise_sum", [0, 1, 0])],
    "manysizes": [("many_size_of", 3, 3, 0, 1), ("size_rows", 3, 3)],
    "manyletters": [
        ("many_members", MANY), ("fullest_book", 3, 4), ("many_rings", MANY),
        ("lost_letter", MANY, [0, 2]), ("read_many_lost", MANY, [0, 2]),
        ("read_many_put", MANY, [0, 2, 2, 1]), ("couples_that_read", 3, 3, [0, 2]),
    ],
    "weights": [
        ("check_weights", [1, 2]), ("steep_by", 2, [1, 2, 4]), ("steep_modulus", 2, [1, 2, 4], 2),
        ("weights_for", 2, 2, 4), ("weight_members", WEIGHED), ("rest_sizes", 2, [1, 2], 3),
        ("weight_size", WEIGHED), ("richest_rest", 2, [1, 2], 3),
    ],
    "severals": [
        ("members_behind", WEIGHED, [1, 1], 2, 0), ("read_several", WEIGHED, [1], 3, 0),
        ("close_couple", 2, [1, 1], 2, 1),
    ],
    "orders": [
        ("check_row", 3, [3, 1], 2), ("order_rises", [3, 1]), ("order_total", [3, 1]),
        ("turned_order", [3, 1, 2]), ("contrary_order", [3, 1, 2]), ("lacking_member", 3, [3, 1]),
        ("row_without", [3, 1, 2], 1), ("order_with", 3, [3, 1], 2), ("places_tried", 3, [3, 1]),
        ("moves_apart", [3, 1, 2], [1, 2, 3]), ("count_by_rises", [0, 1]), ("total_spread", 4),
    ],
    "orderbooks": [
        ("order_members", ORDERS), ("order_size", ORDERS), ("read_row", ORDERS, [3, 1]),
        ("near_orders", ORDERS, [3, 1, 2]), ("order_for", ORDERS, 1),
        ("number_for", ORDERS, [3, 2, 1]),
    ],
    "doubles": [
        ("double_run", [0, 1], 2), ("swallow_run", [0, 0], 1), ("doubled_words", [0, 1], 2),
        ("swallowed_words", [0, 0, 1, 1], 1), ("doubled_count", 3, 2),
        ("swallowed_count", [0, 0, 1], 1), ("run_steps", [0, 0, 1], [0, 1, 1]),
        ("runs_borne", BOOK), ("bears_runs", BOOK, 1), ("runs_pair", Book(2, 2, [[0, 0]]), 1),
        ("runs_pair", Book(2, 3, [[0, 0, 1], [0, 1, 1]]), 1),
    ],
    "runbooks": [
        ("run_book", [0, 1], 4, 0), ("length_members", RUNS), ("members_near", RUNS, [0, 0, 1]),
        ("sums_clash", [1, 1], 5, 1), ("run_size", 6, 2, 1), ("length_size", RUNS),
    ],
    "units": [
        ("unit_of", UNITS, [0, 0]), ("doubtful_piece", CLASHING), ("room_taken", UNITS),
        ("written_row", UNITS, [[0, 0], [0, 0]], [None, 3]),
    ],
    "restwords": [("rest_web", CLASHING)],
    "cuttings": [
        ("cuts_told", UNITS), ("cuts_told", CLASHING), ("ends_told", CLASHING), ("ends_told", UNITS),
        ("clash_fault", CLASHING, Clash(((), CLASHING.pieces[:1]), ((), CLASHING.pieces[:1]))),
        ("ends_fault", CLASHING, TwoCuts(CLASHING.pieces[:1], CLASHING.pieces[1:2])),
        ("count_cuttings", UNITS, [0, 0, 1]), ("cut_row", UNITS, [0, 0, 1]), ("sure_mark", SHORT),
    ],
    "streams": [],
    "datas": [
        ("free_places", 5), ("data_word", 4, 0, [1]), ("data_of", [0, 1, 1, 0]),
    ],
    "bests": [
        ("clash_ties", 2, 2, 1), ("best_books", 2, 3, 1), ("filled_book", SHORT, 1),
    ],
    "edits": [("edited_units", UNITS, [["put", [1, 1]], ["mark", [0, 1]], ["turn"]])],
    "mends": [
        ("goal_met", UNITS, ["cuts"]), ("find_mends", UNITS, [["turn"], ["put", [1, 1]]], [["size", 2]]),
        ("find_spoilers", UNITS, [["turn"], ["put", [1, 1]]], [["size", 2]]),
    ],
    "bench": [],
}


def shown(thing):
    """A thing with all its parts as a string, its kinds too."""
    if isinstance(thing, dict):
        return repr([(key, shown(part)) for key, part in thing.items()])
    if isinstance(thing, (list, tuple)):
        return thing.__class__.__name__ + repr([shown(part) for part in thing])
    if hasattr(thing, "__dict__"):
        return thing.__class__.__name__ + shown(vars(thing))
    return repr(thing)


def is_plain(thing):
    """Whether what is returned is made of tuples, whole numbers, strings and own objects."""
    if isinstance(thing, tuple):
        return all(is_plain(part) for part in thing)
    if thing is None or isinstance(thing, (int, str)):
        return True
    return thing.__class__.__module__.startswith("lostplaces.") and is_plain(
        tuple(vars(thing).values()))


def spoil(thing):
    """Change each list that the thing is made of."""
    if isinstance(thing, (list, tuple)):
        for part in thing:
            spoil(part)
    if isinstance(thing, list):
        thing[:] = ["spoilt"]


def result_of(module, name, arguments):
    """What a call returns; of a generator all items."""
    made = getattr(importlib.import_module(f"lostplaces.{module}"), name)(*arguments)
    return tuple(made) if isinstance(made, types.GeneratorType) else made


class Calls(unittest.TestCase):
    """[0.1], [0.2]: what is passed in and what is returned."""

    def test_each_function_is_called(self):
        for module, text in FUNCTIONS.items():
            names = {name for name, _ in split_calls(text)}
            self.assertEqual({call[0] for call in CALLS[module]}, names)

    def test_lists_and_objects_are_left_as_they_were(self):
        for module, calls in CALLS.items():
            for name, *arguments in calls:
                before = shown(arguments)
                once = result_of(module, name, arguments)
                self.assertEqual(shown(arguments), before, name)
                self.assertEqual(shown(result_of(module, name, arguments)), shown(once), name)

    def test_results_are_made_of_tuples(self):
        for module, calls in CALLS.items():
            for name, *arguments in calls:
                self.assertTrue(is_plain(result_of(module, name, arguments)), name)

    def test_tuples_do_as_well_as_lists(self):
        def as_tuples(thing):
            return tuple(map(as_tuples, thing)) if isinstance(thing, (list, tuple)) else thing
        for module, calls in CALLS.items():
            for name, *arguments in calls:
                self.assertEqual(shown(result_of(module, name, as_tuples(arguments))),
                                 shown(result_of(module, name, arguments)), name)

    def test_later_changes_of_lists_have_no_effect(self):
        for module, calls in CALLS.items():
            for name, *arguments in calls:
                passed = [copy.deepcopy(thing) if isinstance(thing, list) else thing
                          for thing in arguments]
                made = result_of(module, name, passed)
                before = shown(made)
                spoil(passed)
                self.assertEqual(shown(made), before, name)

    def test_objects_copy_what_they_need(self):
        words, weights, shape, mark = [[0, 1], [1, 1]], [1, 2, 4], [0, 1], [1, 0]
        made = [
            Book(2, 2, words), WeightBook(2, weights, 7, 1), LengthBook(shape, 4, [1, 2], 3, 1),
            Units(Book(2, 2, words), mark), SumBook.holding(shape, 5), WrongBook.holding(shape),
            ManyBook.holding(2, shape),
        ]
        before = [shown(thing) for thing in made]
        for thing in (words, weights, shape, mark):
            spoil(thing)
        self.assertEqual([shown(thing) for thing in made], before)

    def test_methods_leave_objects_and_lists_as_they_were(self):
        calls = [
            (BOOK.has, [0, 1]), (BOOK.put, [0, 0, 1, 1]), (BOOK.struck, [0, 1, 1, 0]),
            (BOOK.turned,), (BOOK.contrary,), (BOOK.joined, BOOK), (BOOK.stretched, 2),
            (SUMS.has, [0, 1]), (SUMS.turned,), (SUMS.contrary,), (SumBook.holding, [0, 1], 5),
            (WrongBook(4, 5).has, [0, 1]), (WrongBook(4, 5).contrary,), (WrongBook.holding, [0, 1]),
            (MANY.has, [0, 1]), (MANY.mirrored,), (ManyBook.holding, 2, [0, 1]),
            (WEIGHED.has, [0, 1]), (ORDERS.has, [1, 2, 3]), (RUNS.has, [0, 1]),
        ]
        for call, *arguments in calls:
            before = (shown(arguments), shown([BOOK, SUMS, MANY, WEIGHED, ORDERS, RUNS]))
            self.assertTrue(is_plain(call(*arguments)), call)
            after = (shown(arguments), shown([BOOK, SUMS, MANY, WEIGHED, ORDERS, RUNS]))
            self.assertEqual(after, before)

    def test_streams_and_benches_leave_their_units(self):
        before = shown(UNITS)
        stream = Stream(UNITS)
        for letter in (0, 0, 1, 0):
            stream.hear(letter)
        bench = Bench(UNITS)
        bench.do_edit(["put", [1, 1]])
        bench.do_edit(["mark", [0]])
        bench.do_fill(1)
        present = bench.present
        kept = shown(present)
        bench.take_back()
        self.assertEqual((shown(UNITS), shown(present)), (before, kept))

    def test_what_was_told_stays(self):
        stream = Stream(UNITS)
        stream.hear(0)
        behind, told = stream.behind, stream.told
        stream.hear(0)
        stream.hear(0)
        self.assertEqual((behind, told), ((0,), ()))
        bench = Bench(UNITS)
        log = bench.log
        bench.do_edit(["turn"])
        self.assertEqual(log, ())


class Results(unittest.TestCase):
    """[0.5]: result classes."""

    def test_all_are_listed(self):
        self.assertEqual(set(RESULTS) | set(KEPT), set(CLASSES))

    def test_parts_and_likeness(self):
        things = [(1, 2), "word", None, [3]]
        for name, text in RESULTS.items():
            kind, parts = thing_of(name), text.split()
            values = [things[at % 4] for at in range(len(parts))]
            result = kind(*values)
            self.assertEqual(vars(result), dict(zip(parts, values)))
            self.assertTrue(all(getattr(result, part) is value for part, value in zip(parts, values)))
            twin = kind(**dict(zip(parts, copy.deepcopy(values))))
            self.assertTrue(result == twin and not result != twin)
            for at in range(len(parts)):
                other = values[:at] + ["other"] + values[at + 1:]
                self.assertFalse(result == kind(*other), (name, parts[at]))
                self.assertTrue(result != kind(*other), (name, parts[at]))
            for other in (tuple(values), values, vars(result), None, 7, name, object()):
                self.assertFalse(result == other, name)
                self.assertFalse(other == result, name)

    def test_classes_with_the_same_parts_are_unlike(self):
        made = [thing_of(name)(*range(len(text.split()))) for name, text in RESULTS.items()]
        for at, one in enumerate(made):
            for to, other in enumerate(made):
                self.assertEqual(one == other, at == to)

    def test_attributes_of_all_other_classes(self):
        made = {
            "books.Book": BOOK, "sums.SumBook": SUMS, "wrongs.WrongBook": WrongBook(4, 5),
            "manyletters.ManyBook": MANY, "weights.WeightBook": WEIGHED,
            "orderbooks.OrderBook": ORDERS, "runbooks.LengthBook": RUNS, "units.Units": UNITS,
            "streams.Stream": Stream(UNITS), "bench.Bench": Bench(UNITS),
        }
        self.assertEqual(set(made), set(KEPT))
        for name, thing in made.items():
            self.assertTrue(set(KEPT[name].split()) <= set(vars(thing)), name)
            for other in (None, 7, name, (), vars(thing)):
                self.assertFalse(thing == other)
            for other_name, other in made.items():
                self.assertEqual(thing == other, name == other_name)

    def test_results_that_are_returned_are_equal_again(self):
        for module, calls in CALLS.items():
            for name, *arguments in calls:
                self.assertEqual(result_of(module, name, arguments),
                                 result_of(module, name, arguments), name)
        self.assertNotEqual(cuts_told(UNITS), cuts_told(CLASHING))


class Errors(unittest.TestCase):
    """[0.3], [0.7]: errors."""

    def test_classes(self):
        kinds = [kind for _, kind in inspect.getmembers(errors, inspect.isclass)]
        self.assertEqual(len(kinds), 34)
        for kind in kinds:
            self.assertIs(kind.__base__, ValueError if kind is errors.PlaceError
                          else errors.PlaceError)

    def test_no_other_file_has_error_classes(self):
        for module in FUNCTIONS:
            loaded = importlib.import_module(f"lostplaces.{module}")
            for _, kind in inspect.getmembers(loaded, inspect.isclass):
                if issubclass(kind, Exception):
                    self.assertEqual(kind.__module__, "lostplaces.errors")

    def test_true_is_no_number_and_no_letter(self):
        # Each function with a number or a word as its first argument refuses True there.
        for module, calls in CALLS.items():
            for name, first, *others in calls:
                if name in ("is_whole", "power_of", "choose_of", "check_row", "check_word"):
                    continue
                call = getattr(importlib.import_module(f"lostplaces.{module}"), name)
                if isinstance(first, int):
                    self.assertIsNotNone(caught(self.whole, call, True, *others), name)
                elif isinstance(first, list):
                    self.assertIsNotNone(caught(self.whole, call, [True] + first[1:], *others), name)

    def whole(self, call, *arguments):
        """The result of a call; of a generator all items."""
        made = call(*arguments)
        return list(made) if isinstance(made, types.GeneratorType) else made


if __name__ == "__main__":
    unittest.main()
