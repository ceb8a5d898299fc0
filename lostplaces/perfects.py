"""Perfect books: each word of one letter fewer has just one member above it."""

from lostplaces.below import MOST_WORDS, below_words, is_below
from lostplaces.books import Book
from lostplaces.errors import BadBook, NotOneOff, TooMany
from lostplaces.sums import sum_members
from lostplaces.words import (
    MOST_LETTERS, all_words, check_letters, check_number, check_word, power_of,
)

MOST_SEARCHED = 32


class Uneven:
    """A word that has none or several members above it, with these members."""

    def __init__(self, word, above):
        self.word = word
        self.above = above

    def __eq__(self, other):
        return isinstance(other, Uneven) and self.word == other.word and self.above == other.above


def shares_of(book):
    """Yield the members of a sum book, each with the words below it by 1, ascending."""
    for member in sum_members(book):
        yield (member, below_words(member, 1))


def book_of_sums(book):
    """Return the Book with the members of a sum book."""
    return Book(2, book.length, list(sum_members(book)))


def members_above(book, word):
    """Return the members above a word of one letter fewer, ascending."""
    word = check_word(book.letters, word)
    if len(word) != book.length - 1:
        raise NotOneOff()
    return tuple([member for member in book.words if is_below(word, member)])


def uneven_word(book):
    """Return the least word that has not just one member above it, as Uneven, or None."""
    if book.length == 0:
        raise BadBook("length")
    count = power_of(book.letters, book.length - 1)
    if count > MOST_WORDS:
        raise TooMany(count)
    # Going from the members down is shorter than asking for each word which
    # members are above it.
    found = {}
    for member in book.words:
        for word in below_words(member, 1):
            found.setdefault(word, []).append(member)
    for word in all_words(book.letters, book.length - 1):
        members = found.get(word, [])
        if len(members) != 1:
            return Uneven(word, tuple(members))
    return None


def is_perfect(book):
    """Tell whether each word of one letter fewer has just one member above it."""
    return uneven_word(book) is None


def perfect_books(letters, length):
    """Yield all perfect books of these letters and this length, ascending by their words."""
    check_letters(letters)
    check_number(length, 1, MOST_LETTERS)
    count = power_of(letters, length)
    if count > MOST_SEARCHED:
        raise TooMany(count)
    for words in _perfect_choices(letters, length):
        yield Book(letters, length, words)


def _perfect_choices(letters, length):
    """The words of all perfect books, each choice ascending, the choices too."""
    # Some word above the least word that is not covered yet must be chosen,
    # so each choice is come to in one order only.
    covers = _covers_of(letters, length)
    full = (1 << power_of(letters, length - 1)) - 1
    found = []
    begun = [((), 0)]
    while begun:
        chosen, covered = begun.pop()
        if covered == full:
            found.append(tuple(sorted(chosen)))
            continue
        least = ~covered & (covered + 1)
        for word, cover in covers:
            if cover & least and not cover & covered:
                begun.append((chosen + (word,), covered | cover))
    return sorted(found)


def _covers_of(letters, length):
    """Each word with a number whose bit k tells if the word number k is below it by 1."""
    bits = {word: 1 << at for at, word in enumerate(all_words(letters, length - 1))}
    return [
        (word, sum([bits[short] for short in below_words(word, 1)]))
        for word in all_words(letters, length)
    ]
