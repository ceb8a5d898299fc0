"""Wrong books: they bear one letter lost, put in or made wrong."""

from lostplaces.errors import BadModulus, BadRest, NotOneOff, TooMany
from lostplaces.readers import read_lost, read_put
from lostplaces.sizes import size_of
from lostplaces.sums import SumBook, place_sum, sum_members
from lostplaces.words import check_number, check_word, is_whole, power_of

MOST_LENGTH = 60
MOST_HERE = 61
MOST_LISTED = 14
MOST_MODULUS = 1000


class Read:
    """How a word reads in a wrong book, and the member that it was."""

    def __init__(self, what, member):
        self.what = what
        self.member = member

    def __eq__(self, other):
        return isinstance(other, Read) and self.what == other.what and self.member == other.member


class WrongBook:
    """All words of two letters of one length whose place sum leaves one rest by twice the length."""

    def __init__(self, length, rest):
        check_number(length, 1, MOST_LENGTH)
        if not is_whole(rest, 0, 2 * length - 1):
            raise BadRest()
        self.length = length
        self.rest = rest
        self.modulus = 2 * length
        self.size = size_of(length - 1, rest % length)

    def __eq__(self, other):
        return (
            isinstance(other, WrongBook) and self.length == other.length and self.rest == other.rest
        )

    @staticmethod
    def holding(word):
        """Return the wrong book of the word's length that has the word."""
        word = check_word(2, word, MOST_HERE)
        check_number(len(word), 1, MOST_LENGTH)
        return WrongBook(len(word), place_sum(word) % (2 * len(word)))

    def has(self, word):
        """Tell whether the word is a member; words of another length are none."""
        word = check_word(2, word, MOST_HERE)
        return len(word) == self.length and place_sum(word) % self.modulus == self.rest

    def contrary(self):
        """Return the wrong book of all members with 0 and 1 exchanged."""
        whole = self.length * (self.length + 1) // 2
        return WrongBook(self.length, (whole - self.rest) % self.modulus)


def wrong_members(book):
    """Yield the members of a wrong book, ascending."""
    if book.length > MOST_LISTED:
        raise TooMany(power_of(2, book.length))
    heads = head_book(book)
    for head in sum_members(heads):
        yield checked_word(book, head)


def head_book(book):
    """Return the full sum book of the members without their last letters."""
    return SumBook(book.length - 1, book.length, book.rest % book.length)


def checked_word(book, head):
    """Return the one member that begins with a word of one letter fewer, or None."""
    head = check_word(2, head, MOST_HERE)
    if len(head) != book.length - 1:
        raise NotOneOff()
    lacking = (book.rest - place_sum(head)) % book.modulus
    if lacking == 0:
        return head + (0,)
    if lacking == book.length:
        return head + (1,)
    return None


def read_wrong(book, word):
    """Return how the word reads in the book, and its member, as Read, or None."""
    word = check_word(2, word, MOST_HERE)
    if len(word) == book.length:
        return _read_same(book, word)
    # Twice the length is above the length, so a wrong book is a sum book, too.
    sums = SumBook(book.length, book.modulus, book.rest)
    if len(word) == book.length - 1:
        what = "lost"
        member = read_lost(sums, word)
    elif len(word) == book.length + 1:
        what = "put"
        member = read_put(sums, word)
    else:
        raise NotOneOff()
    return None if member is None else Read(what, member)


def _read_same(book, word):
    """How a word with as many letters as members have reads, or None."""
    place = wrong_place(book, word)
    if place is None:
        return None
    if place == 0:
        return Read("none", word)
    return Read("wrong", word[:place - 1] + (1 - word[place - 1],) + word[place:])


def wrong_place(book, word):
    """Return the place of the one wrong letter, 0 for a member, or None."""
    word = check_word(2, word, MOST_HERE)
    if len(word) != book.length:
        raise NotOneOff()
    excess = (place_sum(word) - book.rest) % book.modulus
    if excess == 0 or excess == book.length:
        return excess
    # Either a 1 at place excess counts too much, or a 0 lacks what would bring
    # the sum on to the next rest.
    place, letter = (excess, 1) if excess < book.length else (book.modulus - excess, 0)
    return place if word[place - 1] == letter else None


def rests_that_read(length, word):
    """Return all rests, ascending, in whose wrong book of this length the word reads."""
    check_number(length, 1, MOST_LENGTH)
    return tuple([
        rest for rest in range(2 * length) if read_wrong(WrongBook(length, rest), word) is not None
    ])


def wrong_clash(length, modulus):
    """Return two words of one rest that differ at one or two places, or None."""
    check_number(length, 1, MOST_LENGTH)
    if not is_whole(modulus, 1, MOST_MODULUS):
        raise BadModulus()
    if modulus >= 2 * length:
        return None
    # The ones of the other word count just the modulus.
    places = (modulus,) if modulus <= length else (modulus - length, length)
    other = tuple([1 if place in places else 0 for place in range(1, length + 1)])
    return ((0,) * length, other)
