"""Place sums, and the books that are told by them."""

from lostplaces.errors import BadAmount, BadModulus, BadRest, NotPerfect, TooMany
from lostplaces.judged import NearPair
from lostplaces.words import all_words, check_number, check_word, is_whole, power_of

MOST_HERE = 200
MOST_MODULUS = 1000000
MOST_LISTED = 14


def place_sum(word):
    """Return the sum of the places, from 1, that hold a 1."""
    return _sum_of(check_word(2, word, MOST_HERE + 1))


def _sum_of(word):
    """The place sum, without checks."""
    return sum([place for place, letter in enumerate(word, start=1) if letter == 1])


def lifted_word(word, amount):
    """Return the word above by 1 whose place sum is greater by the amount."""
    word = check_word(2, word, MOST_HERE)
    if not is_whole(amount, 0, len(word) + 1):
        raise BadAmount()
    ones = sum(word)
    if amount <= ones:
        # As many ones behind are the other ones ahead.
        at = _index_behind(word, 1, ones - amount)
        return word[:at] + (0,) + word[at:]
    at = _index_behind(word, 0, amount - ones - 1)
    return word[:at] + (1,) + word[at:]


def _index_behind(word, letter, many):
    """The first index with so many of these letters ahead of it."""
    at = 0
    while many > 0:
        if word[at] == letter:
            many -= 1
        at += 1
    return at


def lowered_word(word, amount):
    """Return the word below by 1 whose place sum is less by the amount, or None."""
    word = check_word(2, word, MOST_HERE + 1)
    if not is_whole(amount, 0, len(word)):
        raise BadAmount()
    ones_behind = sum(word)
    for at, letter in enumerate(word):
        ones_behind -= letter
        # Each 1 behind the lost letter comes one place nearer.
        if amount == ones_behind + (at + 1) * letter:
            return word[:at] + word[at + 1:]
    return None


class SumBook:
    """All words of one length whose place sum leaves one rest by the modulus."""

    def __init__(self, length, modulus, rest):
        check_number(length, 0, MOST_HERE)
        _check_modulus(modulus, length + 1)
        _check_rest(rest, modulus)
        self.length = length
        self.modulus = modulus
        self.rest = rest

    def __eq__(self, other):
        return (
            isinstance(other, SumBook) and self.length == other.length
            and self.modulus == other.modulus and self.rest == other.rest
        )

    @property
    def is_full(self):
        """Whether each word one letter shorter has a member above it."""
        return self.modulus == self.length + 1

    @staticmethod
    def holding(word, modulus):
        """Return the sum book of the word's length with this modulus that has the word."""
        word = check_word(2, word, MOST_HERE)
        _check_modulus(modulus, len(word) + 1)
        return SumBook(len(word), modulus, _sum_of(word) % modulus)

    def has(self, word):
        """Tell whether the word is a member; words of another length are none."""
        word = check_word(2, word, MOST_HERE)
        return len(word) == self.length and _sum_of(word) % self.modulus == self.rest

    def contrary(self):
        """Return the sum book of all members with 0 and 1 exchanged."""
        whole = self.length * (self.length + 1) // 2
        return SumBook(self.length, self.modulus, (whole - self.rest) % self.modulus)

    def turned(self):
        """Return the sum book of all members turned about, for a full book."""
        if not self.is_full:
            raise NotPerfect()
        return SumBook(self.length, self.modulus, -self.rest % self.modulus)


def _check_modulus(modulus, least):
    """Raise BadModulus() unless this is a modulus from the least one on."""
    if not is_whole(modulus, least, MOST_MODULUS):
        raise BadModulus()


def _check_rest(rest, modulus):
    """Raise BadRest() unless this is a rest by the modulus."""
    if not is_whole(rest, 0, modulus - 1):
        raise BadRest()


def sum_members(book):
    """Yield the members of a sum book, ascending."""
    if book.length > MOST_LISTED:
        raise TooMany(power_of(2, book.length))
    for word in all_words(2, book.length):
        if _sum_of(word) % book.modulus == book.rest:
            yield word


def modulus_clash(length, modulus, rest):
    """Return a NearPair of two words of this rest if the modulus is not above the length."""
    check_number(length, 0, MOST_HERE)
    _check_modulus(modulus, 1)
    _check_rest(rest, modulus)
    if modulus > length:
        return None
    below = tuple([1 if place == rest else 0 for place in range(1, length)])
    # Lifted by 0 the word gets a 0 at its end, so the same 0 put behind the
    # other word is above both.
    one = lifted_word(below, 0)
    other = lifted_word(below, modulus)
    return NearPair(one, other, below, other + (0,))
