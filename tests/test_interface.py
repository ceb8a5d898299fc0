"""The interface: each name in its own file, with the arguments that it must have."""

import ast
import importlib
import inspect
import pathlib
import unittest

PACKAGE = pathlib.Path(__file__).resolve().parent.parent / "lostplaces"

FUNCTIONS = {
    "words": """is_whole(thing, low=None, high=None) check_number(thing, low, high)
        check_letters(letters) power_of(base, exponent) choose_of(many, taken)
        check_word(letters, word, most=24) word_text(word) word_of_text(letters, text)
        letter_lost(word, place) letter_put(word, place, letter) turned_word(word)
        contrary_word(word)""",
    "runs": """count_runs(word) shape_of(word) lengths_of(word) check_shape(shape, most=24)
        word_of_runs(shape, lengths)""",
    "below": """below_words(word, lost) below_count(word, lost)
        greatest_below(letters, length, lost) below_bounds(runs, lost) below_places(short, long)""",
    "above": "above_words(letters, word, put) above_count(letters, length, put)",
    "commons": """common_length(one, other) common_word(one, other) shortest_above(one, other)
        shortest_fault(one, other, word) come_to(letters, word, lost, put)""",
    "books": "check_member(book, word)",
    "judged": """borne_of(book) bears_lost(book, number) couple_counts(book) near_pair(book, number)
        pair_fault(book, number, pair) thinned_book(book, number) all_readings(book, word, number)
        read_by_book(book, word, number)""",
    "mixes": """check_mix(length, mix) mixed_words(letters, word, mix) comes_by_mix(word, mix, other)
        least_mix(one, other) book_mix(book) bears_mixes(book, first, second) bears_mix(book, mix)
        mix_clash(book, first, second=None) mix_fault(book, first, second, clash)""",
    "booktexts": "book_text(book) book_of_text(text)",
    "sums": """place_sum(word) lifted_word(word, amount) lowered_word(word, amount) sum_members(book)
        modulus_clash(length, modulus, rest)""",
    "readers": """read_lost(book, word) read_put(book, word) read_any(book, word) unread_word(book)
        place_of_loss(book, word) place_of_put(book, word) near_members(book, word)""",
    "perfects": """shares_of(book) book_of_sums(book) members_above(book, word) uneven_word(book)
        is_perfect(book) perfect_books(letters, length)""",
    "divisors": """divisors_of(number) phi_of(number) mu_of(number) common_divisor(one, other)
        odd_part(number) ram_of(number, rest)""",
    "sizes": """size_of(length, rest) size_by_ones(length, rest, ones)
        size_by_table(length, modulus, rest) book_sizes(length) extremes_of(length)""",
    "rings": """rotations_of(word) least_rotation(word) repeats_of(word) odd_rings(length)
        single_rings(length) rings_for(length, rest)""",
    "numbering": "count_from(book, head) member_at(book, number) number_of(book, word)",
    "wrongs": """wrong_members(book) head_book(book) checked_word(book, head) read_wrong(book, word)
        wrong_place(book, word) rests_that_read(length, word) wrong_clash(length, modulus)""",
    "rises": "rises_of(word) rise_word(word) rise_sum(word)",
    "manysizes": "many_size_of(letters, length, rest, total) size_rows(letters, length)",
    "manyletters": """many_members(book) fullest_book(letters, length) many_rings(book)
        lost_letter(book, word) read_many_lost(book, word) read_many_put(book, word)
        couples_that_read(letters, length, word)""",
    "weights": """check_weights(weights) steep_by(letters, weights)
        steep_modulus(letters, weights, lost) weights_for(letters, lost, length)
        weight_members(book) rest_sizes(letters, weights, modulus) weight_size(book)
        richest_rest(letters, weights, modulus)""",
    "severals": """members_behind(book, word, lost, put) read_several(book, word, lost, put)
        close_couple(letters, weights, modulus, lost)""",
    "orders": """check_row(length, row, many) order_rises(row) order_total(row)
        turned_order(order) contrary_order(order) lacking_member(length, row)
        row_without(order, member) order_with(length, row, place) places_tried(length, row)
        moves_apart(one, other) count_by_rises(word) total_spread(length)""",
    "orderbooks": """order_members(book) order_size(book) read_row(book, row)
        near_orders(book, order) order_for(book, number) number_for(book, order)""",
    "doubles": """double_run(word, run) swallow_run(word, run) doubled_words(word, times)
        swallowed_words(word, times) doubled_count(runs, times) swallowed_count(word, times)
        run_steps(one, other) runs_borne(book) bears_runs(book, number) runs_pair(book, number)""",
    "runbooks": """run_book(shape, length, rest) length_members(book) members_near(book, word)
        sums_clash(weights, modulus, number) run_size(length, runs, rest) length_size(book)""",
    "units": """unit_of(units, member) doubtful_piece(units) room_taken(units)
        written_row(units, members, losses)""",
    "restwords": "rest_web(units)",
    "cuttings": """cuts_told(units) clash_fault(units, clash) ends_told(units)
        ends_fault(units, cuts) count_cuttings(units, row) cut_row(units, row) sure_mark(book)""",
    "streams": "",
    "datas": """free_places(length, *, wrong=False) data_word(length, rest, bits, *, wrong=False)
        data_of(word, *, wrong=False)""",
    "bests": """clash_ties(letters, length, lost) best_books(letters, length, lost)
        filled_book(book, number)""",
    "edits": "edited_units(units, edits)",
    "mends": """goal_met(units, goal) find_mends(units, edits, goals)
        find_spoilers(units, edits, goals)""",
    "bench": "",
}
# The arguments of each class, and its methods with theirs.
CLASSES = {
    "books.Book": ("(letters, length, words)", """has(self, word) put(self, word)
        struck(self, word) turned(self) contrary(self) joined(self, other)
        stretched(self, times) __iter__(self)"""),
    "judged.NearPair": ("(one, other, below, above)", ""),
    "judged.Thinned": ("(book, rows)", ""),
    "mixes.MixClash": ("(one, other, word)", ""),
    "sums.SumBook": ("(length, modulus, rest)", """has(self, word) turned(self) contrary(self)
        holding(word, modulus)"""),
    "perfects.Uneven": ("(word, above)", ""),
    "wrongs.Read": ("(what, member)", ""),
    "wrongs.WrongBook": ("(length, rest)", "has(self, word) contrary(self) holding(word)"),
    "manyletters.ManyBook": ("(letters, length, rest, total)", """has(self, word) mirrored(self)
        holding(letters, word)"""),
    "weights.WeightBook": ("(letters, weights, modulus, rest)", "has(self, word)"),
    "severals.TooClose": ("(one, other)", ""),
    "orderbooks.OrderBook": ("(length, modulus, rest)", "has(self, row)"),
    "doubles.RunPair": ("(one, other, apart, longer, shorter)", ""),
    "runbooks.LengthBook": ("(shape, length, weights, modulus, rest)", "has(self, word)"),
    "runbooks.SumsClash": ("(one, other)", ""),
    "units.Units": ("(book, mark)", ""),
    "restwords.Web": ("(starts, rests, steps)", ""),
    "cuttings.Told": ("(wait, first, second)", ""),
    "cuttings.Clash": ("(first, second)", ""),
    "cuttings.TwoCuts": ("(first, second)", ""),
    "streams.Stream": ("(units)", "hear(self, letter) finish(self)"),
    "bests.Best": ("(number, book)", ""),
    "bench.Bench": ("(units)", """do_edit(self, edit) do_fill(self, number) take_back(self)
        trial(self, edits, *, goal=None) __len__(self)"""),
    "bench.Tried": ("(many, borne, runs, told, met)", ""),
}
# The two classes whose objects change have no likeness.
CHANGING = ("streams.Stream", "bench.Bench")
STATIC = ("sums.SumBook", "wrongs.WrongBook", "manyletters.ManyBook")
GENERATORS = """sums.sum_members perfects.shares_of perfects.perfect_books wrongs.wrong_members
    manyletters.many_members weights.weight_members orderbooks.order_members
    runbooks.length_members""".split()


def thing_of(name):
    """The class or function with a name such as sums.SumBook."""
    module, _, name = name.partition(".")
    return getattr(importlib.import_module(f"lostplaces.{module}"), name)


def split_calls(text):
    """The name and the argument list of each call in a row of calls."""
    calls = [part.strip() for part in text.split(")") if part.strip()]
    return [(call.partition("(")[0], "(" + call.partition("(")[2] + ")") for call in calls]


def bodies_of(name):
    """The statements of a module of the package."""
    return ast.parse((PACKAGE / f"{name}.py").read_text()).body


class Interface(unittest.TestCase):
    def test_each_file_is_listed(self):
        files = {file.stem for file in PACKAGE.glob("*.py")}
        self.assertEqual(files, set(FUNCTIONS) | {"__init__", "errors"})

    def test_functions(self):
        for name, text in FUNCTIONS.items():
            module = importlib.import_module(f"lostplaces.{name}")
            defined = {part.name for part in bodies_of(name) if isinstance(part, ast.FunctionDef)}
            for function, arguments in split_calls(text):
                signature = str(inspect.signature(getattr(module, function)))
                self.assertEqual(signature, arguments, function)
                self.assertIn(function, defined)

    def test_classes(self):
        for full_name, (arguments, methods) in CLASSES.items():
            module, _, name = full_name.partition(".")
            found = [part for part in bodies_of(module)
                     if isinstance(part, ast.ClassDef) and part.name == name]
            self.assertEqual(len(found), 1, name)
            own = getattr(importlib.import_module(f"lostplaces.{module}"), name)
            self.assertEqual(str(inspect.signature(own)), arguments, name)
            bodies = {part.name for part in found[0].body if isinstance(part, ast.FunctionDef)}
            self.assertEqual("__eq__" in bodies, full_name not in CHANGING, name)
            for method, method_arguments in split_calls(methods):
                self.assertIn(method, bodies)
                self.assertEqual(str(inspect.signature(getattr(own, method))), method_arguments)

    def test_kinds(self):
        self.assertIsInstance(vars(thing_of("sums.SumBook"))["is_full"], property)
        self.assertIsInstance(vars(thing_of("bench.Bench"))["log"], property)
        for name in STATIC:
            self.assertIsInstance(vars(thing_of(name))["holding"], staticmethod)
        for name in GENERATORS:
            self.assertTrue(inspect.isgeneratorfunction(thing_of(name)))


if __name__ == "__main__":
    unittest.main()
