"""What a book bears: how far its members are apart, and reading by search."""

from lostplaces.below import is_below
from lostplaces.commons import common_word, longest_common, shortest_above
from lostplaces.books import Book
from lostplaces.errors import NotBorne
from lostplaces.words import check_number, check_word, is_word


class NearPair:
    """Two words with a word below both and a word above both."""

    def __init__(self, one, other, below, above):
        self.one = one
        self.other = other
        self.below = below
        self.above = above

    def __eq__(self, other):
        return (
            isinstance(other, NearPair) and self.one == other.one and self.other == other.other
            and self.below == other.below and self.above == other.above
        )


class Thinned:
    """A book with the couples (left out, kept) of the members that it lacks."""

    def __init__(self, book, rows):
        self.book = book
        self.rows = rows

    def __eq__(self, other):
        return isinstance(other, Thinned) and self.book == other.book and self.rows == other.rows


def couples_of(book):
    """Return the list of all couples of members, in their order."""
    words = book.words
    return [(one, other) for at, one in enumerate(words) for other in words[at + 1:]]


def _apart(one, other):
    """By how many letters lost two words of one length come to a common word."""
    return len(one) - longest_common(one, other)


def borne_of(book):
    """Return the greatest number of letters lost that the book bears."""
    return min([_apart(one, other) - 1 for one, other in couples_of(book)], default=book.length)


def bears_lost(book, number):
    """Tell whether the book bears so many letters lost."""
    check_number(number, 0, book.length)
    return number <= borne_of(book)


def couple_counts(book):
    """Return how many couples are 0, 1, .. and as many as the length apart."""
    counts = [0] * (book.length + 1)
    for one, other in couples_of(book):
        counts[_apart(one, other)] += 1
    return tuple(counts)


def _first_near(book, number):
    """The first couple that is at most so much apart, or None."""
    for one, other in couples_of(book):
        if _apart(one, other) <= number:
            return (one, other)
    return None


def near_pair(book, number):
    """Return a NearPair that shows that the book does not bear the number, or None."""
    check_number(number, 0, book.length)
    couple = _first_near(book, number)
    if couple is None:
        return None
    one, other = couple
    below = common_word(one, other)[:book.length - number]
    above = shortest_above(one, other)
    # A longer word is above both, too, whatever letters follow.
    above = above + (0,) * (book.length + number - len(above))
    return NearPair(one, other, below, above)


def pair_fault(book, number, pair):
    """Judge a NearPair: None, "one", "other", "below" or "above"."""
    check_number(number, 0, book.length)
    couple = _first_near(book, number)
    if couple is None or pair.one != couple[0]:
        return "one"
    if pair.other != couple[1]:
        return "other"
    if not _is_common_below(book, book.length - number, pair.below, couple):
        return "below"
    if not _is_common_above(book, book.length + number, pair.above, couple):
        return "above"
    return None


def _is_common_below(book, length, word, couple):
    """Whether this is a word of the book's letters and this length below both members."""
    if not is_word(book.letters, length, word):
        return False
    return is_below(word, couple[0]) and is_below(word, couple[1])


def _is_common_above(book, length, word, couple):
    """Whether this is a word of the book's letters and this length above both members."""
    if not is_word(book.letters, length, word):
        return False
    return is_below(couple[0], word) and is_below(couple[1], word)


def thinned_book(book, number):
    """Return Thinned with the members that are more than the number apart from kept ones."""
    check_number(number, 0, book.length)
    kept = []
    rows = []
    for word in book.words:
        near = [other for other in kept if _apart(other, word) <= number]
        if near:
            rows.append((word, near[0]))
        else:
            kept.append(word)
    return Thinned(Book(book.letters, book.length, kept), tuple(rows))


def all_readings(book, word, number):
    """Return the members of which the word comes by at most so many letters lost and put in."""
    word = check_word(book.letters, word, 48)
    check_number(number, 0, book.length)
    both = book.length + len(word)
    return tuple([
        member for member in book.words if both - 2 * longest_common(member, word) <= number
    ])


def read_by_book(book, word, number):
    """Return the one member that all_readings finds, or None."""
    readings = all_readings(book, word, number)
    if not bears_lost(book, number):
        raise NotBorne(number)
    return readings[0] if readings else None
