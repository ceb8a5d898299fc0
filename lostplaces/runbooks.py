"""Length books: words of one shape told by the lengths of their runs."""

from lostplaces.below import MOST_WORDS
from lostplaces.divisors import common_divisor, divisors_of, ram_of
from lostplaces.doubles import doubled_count, doubled_words, swallowed_words
from lostplaces.errors import BadModulus, BadRest, BadShape, BadWeights, TooMany
from lostplaces.runs import check_shape, lengths_of, shape_of
from lostplaces.weights import sum_by
from lostplaces.words import MOST_LETTERS, check_number, check_word, choose_of, is_whole

MOST_RUNS = 8
# 10 to the power of 6, for weights and moduli.
GREATEST = 1000000
MOST_RESTS = 1000
MOST_PLACES = 4
MOST_LENGTH = 200


class LengthBook:
    """All words of one shape and length whose sum of weight times run length leaves one rest."""

    def __init__(self, shape, length, weights, modulus, rest):
        self.shape = _check_few_runs(shape)
        self.length = check_number(length, len(self.shape), MOST_LETTERS)
        self.weights = _check_weights(weights, len(self.shape))
        _check_modulus(modulus)
        _check_rest(rest, modulus)
        self.modulus = modulus
        self.rest = rest

    def __eq__(self, other):
        return (
            isinstance(other, LengthBook) and self.shape == other.shape
            and self.length == other.length and self.weights == other.weights
            and self.modulus == other.modulus and self.rest == other.rest
        )

    def has(self, word):
        """Tell whether the word is a member; words of another length or shape are none."""
        word = check_word(4, word)
        if len(word) != self.length or shape_of(word) != self.shape:
            return False
        return sum_by(self.weights, lengths_of(word)) % self.modulus == self.rest


def _check_few_runs(shape):
    """Return a shape of 1 to 8 runs as a tuple, or raise BadShape."""
    shape = check_shape(shape, MOST_RUNS)
    if not shape:
        raise BadShape(-1)
    return shape


def _check_weights(weights, many):
    """Return just so many weights as a tuple, or raise BadWeights with the first wrong index."""
    if not isinstance(weights, (list, tuple)) or len(weights) != many:
        raise BadWeights(-1)
    for index, weight in enumerate(weights):
        if not is_whole(weight, 1, GREATEST):
            raise BadWeights(index)
    return tuple(weights)


def _check_modulus(modulus):
    """Raise BadModulus() unless this is a modulus of a length book."""
    if not is_whole(modulus, 1, GREATEST):
        raise BadModulus()


def _check_rest(rest, modulus):
    """Raise BadRest() unless this is a rest by the modulus."""
    if not is_whole(rest, 0, modulus - 1):
        raise BadRest()


def run_book(shape, length, rest):
    """Return the length book whose weights are 1, 2, .. and whose modulus is the number of runs."""
    runs = len(_check_few_runs(shape))
    return LengthBook(shape, length, list(range(1, runs + 1)), runs, rest)


def length_members(book):
    """Yield the members of a length book, ascending."""
    # Each word of the shape comes of its shortest one by doubled letters, and
    # doubled_words raises TooMany with the number of these words.
    for word in doubled_words(book.shape, book.length - len(book.shape)):
        if book.has(word):
            yield word


def members_near(book, word):
    """Return the members from which the word comes by doubled or by swallowed letters alone."""
    word = check_word(4, word)
    if shape_of(word) != book.shape:
        return ()
    more = len(word) - book.length
    count = doubled_count(len(book.shape), abs(more))
    if count > MOST_WORDS:
        raise TooMany(count)
    words = swallowed_words(word, more) if more >= 0 else doubled_words(word, -more)
    return tuple([member for member in words if book.has(member)])


class SumsClash:
    """Two unlike lots of places with one sum."""

    def __init__(self, one, other):
        self.one = one
        self.other = other

    def __eq__(self, other):
        return isinstance(other, SumsClash) and self.one == other.one and self.other == other.other


def sums_clash(weights, modulus, number):
    """Return the first two lots of so many places with one sum by the modulus, or None."""
    if not isinstance(weights, (list, tuple)) or not is_whole(len(weights), 1, MOST_RUNS):
        raise BadWeights(-1)
    weights = _check_weights(weights, len(weights))
    _check_modulus(modulus)
    check_number(number, 0, MOST_PLACES)
    first_of = {}
    for lot in _lots(len(weights), number):
        rest = sum([weights[run - 1] for run in lot]) % modulus
        if rest in first_of:
            return SumsClash(first_of[rest], lot)
        first_of[rest] = lot
    return None


def _lots(runs, number):
    """All ascending tuples of so many run numbers, in ascending order."""
    lots = [()]
    for _ in range(number):
        lots = [lot + (run,) for lot in lots for run in range(max(lot, default=1), runs + 1)]
    return lots


def run_size(length, runs, rest):
    """Return how many members the run book of any shape of so many runs has."""
    check_number(length, 1, MOST_LENGTH)
    check_number(runs, 1, length)
    _check_rest(rest, runs)
    total = 0
    for part in divisors_of(common_divisor(length, runs)):
        term = ram_of(part, rest) * choose_of(length // part - 1, runs // part - 1)
        total += -term if part % 2 == 0 and runs // part % 2 == 1 else term
    return total // runs


def length_size(book):
    """Return how many members a length book has, by a table of rests."""
    if book.modulus > MOST_RESTS:
        raise TooMany(book.modulus)
    # table[letters][rest] counts the lengths of the runs so far.
    table = [[0] * book.modulus for _ in range(book.length + 1)]
    table[0][0] = 1
    for weight in book.weights:
        table = _with_run(table, weight % book.modulus)
    return table[book.length][book.rest]


def _with_run(table, weight):
    """The table with one run more, of one letter or more."""
    rows = [[0] * len(table[0])]
    for row in table[:-1]:
        # The last letter of the run stands behind the other runs or behind
        # another letter of it, and counts the weight in either case.
        both = [alone + more for alone, more in zip(row, rows[-1])]
        cut = len(both) - weight
        rows.append(both[cut:] + both[:cut])
    return rows
