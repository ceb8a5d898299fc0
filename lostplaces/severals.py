"""Reading words that lost and got several letters by a weight book, and its close couples."""

from lostplaces.above import above_count, above_words
from lostplaces.below import MOST_WORDS, below_count, below_words
from lostplaces.commons import longest_common
from lostplaces.errors import NotOneOff, TooMany
from lostplaces.weights import check_modulus, check_weights, sum_by
from lostplaces.words import (
    MOST_LETTERS, all_words, check_letters, check_number, check_word, power_of,
)

MOST_COMPARED = 64


class TooClose:
    """Two members that a word comes of."""

    def __init__(self, one, other):
        self.one = one
        self.other = other

    def __eq__(self, other):
        return isinstance(other, TooClose) and self.one == other.one and self.other == other.other


def members_behind(book, word, lost, put):
    """Return all members that the word comes of by just lost letters lost, then put put in."""
    word = check_word(book.letters, word)
    check_number(lost, 0, book.length)
    check_number(put, 0, MOST_LETTERS)
    if len(word) != book.length - lost + put:
        raise NotOneOff()
    count = below_count(word, put) * above_count(book.letters, book.length - lost, lost)
    if count > MOST_WORDS:
        raise TooMany(count)
    return tuple(sorted({
        long for short in below_words(word, put)
        for long in above_words(book.letters, short, lost) if book.has(long)
    }))


def read_several(book, word, lost, put):
    """Return the one member that the word comes of, None, or TooClose with the first two."""
    members = members_behind(book, word, lost, put)
    if len(members) > 1:
        return TooClose(members[0], members[1])
    return members[0] if members else None


def close_couple(letters, weights, modulus, lost):
    """Return the first two words of one rest that come to one word by lost letters, or None."""
    check_letters(letters)
    weights = check_weights(weights)
    check_modulus(modulus)
    length = len(weights)
    check_number(lost, 0, length)
    count = power_of(letters, length)
    if count > MOST_COMPARED:
        raise TooMany(count)
    words = all_words(letters, length)
    for at, one in enumerate(words):
        for other in words[at + 1:]:
            apart = sum_by(weights, one) - sum_by(weights, other)
            if apart % modulus == 0 and longest_common(one, other) >= length - lost:
                return (one, other)
    return None
