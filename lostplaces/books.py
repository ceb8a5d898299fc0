"""Books: sets of words of one length."""

from lostplaces.errors import BadBook, BadWord, NoMember, UnlikeBooks
from lostplaces.words import MOST_LETTERS, check_number, check_word, is_whole, is_word

MOST_MEMBERS = 64


def check_member(book, word):
    """Return the word as a tuple, or raise BadWord or NoMember() if it is no member."""
    word = check_full_word(book.letters, book.length, word)
    if word not in book.words:
        raise NoMember()
    return word


def check_full_word(letters, length, word):
    """Return the word as a tuple, or raise BadWord unless it has just so many letters."""
    word = check_word(letters, word, length)
    if len(word) < length:
        raise BadWord(-1)
    return word


def _check_words(letters, length, words):
    """Return the unlike words, ascending, or raise BadBook."""
    if not isinstance(words, (list, tuple)):
        raise BadBook("words")
    for word in words:
        if not is_word(letters, length, word):
            raise BadBook("words")
    members = tuple(sorted({tuple(word) for word in words}))
    if len(members) > MOST_MEMBERS:
        raise BadBook("many")
    return members


class Book:
    """A set of at most 64 words of one length, its members."""

    def __init__(self, letters, length, words):
        if not is_whole(letters, 2, 4):
            raise BadBook("letters")
        if not is_whole(length, 0, MOST_LETTERS):
            raise BadBook("length")
        self.letters = letters
        self.length = length
        self.words = _check_words(letters, length, words)
        self.size = len(self.words)

    def __eq__(self, other):
        return (
            isinstance(other, Book) and self.letters == other.letters
            and self.length == other.length and self.words == other.words
        )

    def __iter__(self):
        return iter(self.words)

    def has(self, word):
        """Tell whether the word is a member; words of another length are none."""
        return check_word(self.letters, word) in self.words

    def put(self, word):
        """Return the book with this member."""
        word = check_full_word(self.letters, self.length, word)
        return Book(self.letters, self.length, self.words + (word,))

    def struck(self, word):
        """Return the book without this member."""
        word = check_member(self, word)
        return Book(self.letters, self.length, [member for member in self.words if member != word])

    def turned(self):
        """Return the book with each member read from its last letter to its first."""
        return Book(self.letters, self.length, [member[::-1] for member in self.words])

    def contrary(self):
        """Return the book with letters - 1 - x for each letter x."""
        words = [tuple([self.letters - 1 - letter for letter in member]) for member in self.words]
        return Book(self.letters, self.length, words)

    def joined(self, other):
        """Return the book with the members of both books."""
        if self.letters != other.letters or self.length != other.length:
            raise UnlikeBooks()
        return Book(self.letters, self.length, self.words + other.words)

    def stretched(self, times):
        """Return the book with each letter of each member so many times, side by side."""
        check_number(times, 1, 4)
        words = [
            tuple([letter for letter in member for _ in range(times)]) for member in self.words
        ]
        return Book(self.letters, self.length * times, words)
