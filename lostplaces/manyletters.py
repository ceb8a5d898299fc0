"""Many books: two to four letters, told by the rise sum and the total of the letters."""

from lostplaces.errors import NotOneOff, TooMany
from lostplaces.manysizes import MOST_LENGTH, many_size_of
from lostplaces.rings import least_rotation, repeats_of
from lostplaces.rises import MOST_HERE, rise_sum
from lostplaces.words import all_words, check_letters, check_number, check_word, power_of

MOST_LISTED = 4096


class ManyBook:
    """All words of one length whose rise sum leaves one rest and whose letters one total."""

    def __init__(self, letters, length, rest, total):
        # The size checks the four arguments, in their order.
        self.size = many_size_of(letters, length, rest, total)
        self.letters = letters
        self.length = length
        self.rest = rest
        self.total = total

    def __eq__(self, other):
        return (
            isinstance(other, ManyBook) and self.letters == other.letters
            and self.length == other.length and self.rest == other.rest
            and self.total == other.total
        )

    @staticmethod
    def holding(letters, word):
        """Return the many book of these letters and the word's length that has the word."""
        check_letters(letters)
        word = check_word(letters, word, MOST_HERE)
        length = check_number(len(word), 1, MOST_LENGTH)
        return ManyBook(letters, length, rise_sum(word) % length, sum(word) % letters)

    def has(self, word):
        """Tell whether the word is a member; words of another length are none."""
        word = check_word(self.letters, word, MOST_HERE)
        if len(word) != self.length or sum(word) % self.letters != self.total:
            return False
        return rise_sum(word) % self.length == self.rest

    def mirrored(self):
        """Return the many book of all members turned about, each letter x made letters - 1 - x."""
        total = (self.length * (self.letters - 1) - self.total) % self.letters
        return ManyBook(self.letters, self.length, -self.rest % self.length, total)


def _check_listed(book):
    """Raise TooMany unless there are few enough words to go through."""
    count = power_of(book.letters, book.length)
    if count > MOST_LISTED:
        raise TooMany(count)


def many_members(book):
    """Yield the members of a many book, ascending."""
    _check_listed(book)
    for word in all_words(book.letters, book.length):
        if book.has(word):
            yield word


def fullest_book(letters, length):
    """Return the many book with the most members, of several the first one."""
    check_letters(letters)
    check_number(length, 1, MOST_LENGTH)
    return ManyBook(letters, length, 0 if length % 2 == 1 else length // 2, 0)


def many_rings(book):
    """Return the least rotations of the rings that are as many as the members, ascending."""
    _check_listed(book)
    lacking = book.length * (book.length - 1) // 2 - book.rest
    return tuple([
        word for word in all_words(book.letters, book.length)
        if sum(word) % book.letters == book.total and least_rotation(word) == word
        and lacking % repeats_of(word) == 0
    ])


def lost_letter(book, word):
    """Return the letter that brings the word of one letter fewer to the book's total."""
    word = _check_letters_of(book, word, book.length - 1)
    return (book.total - sum(word)) % book.letters


def _check_letters_of(book, word, length):
    """Return the word as a tuple, or raise BadWord, then NotOneOff() by its length."""
    word = check_word(book.letters, word, MOST_HERE)
    if len(word) != length:
        raise NotOneOff()
    return word


def read_many_lost(book, word):
    """Return the one member above a word of one letter fewer, or None."""
    letter = lost_letter(book, word)
    return _member_among(book, _words_with(tuple(word), letter))


def read_many_put(book, word):
    """Return the one member below a word of one letter more, or None."""
    word = _check_letters_of(book, word, book.length + 1)
    return _member_among(book, _words_without(word))


def _words_with(word, letter):
    """The words with this letter put in at each place."""
    return [word[:at] + (letter,) + word[at:] for at in range(len(word) + 1)]


def _words_without(word):
    """The words with the letter lost at each place."""
    return [word[:at] + word[at + 1:] for at in range(len(word))]


def _member_among(book, words):
    """The first of the words that is a member, or None."""
    for word in words:
        if book.has(word):
            return word
    return None


def couples_that_read(letters, length, word):
    """Return all couples (rest, total), ascending, whose many book reads the word."""
    check_letters(letters)
    check_number(length, 1, MOST_LENGTH)
    word = check_word(letters, word, MOST_HERE)
    if len(word) == length - 1:
        words = [long for letter in range(letters) for long in _words_with(word, letter)]
    elif len(word) == length + 1:
        words = _words_without(word)
    else:
        raise NotOneOff()
    return tuple(sorted({(rise_sum(made) % length, sum(made) % letters) for made in words}))
