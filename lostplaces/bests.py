"""Best books: as many members as can be, and books that no other word can be put into."""

from lostplaces.books import Book
from lostplaces.commons import longest_common
from lostplaces.errors import BadNumber, NotBorne, TooMany
from lostplaces.judged import borne_of
from lostplaces.words import all_words, check_letters, check_number, power_of

MOST_SEARCHED = 32
# Words of two letters are 32 by this length, words of more letters by a lesser one.
MOST_LENGTH = 5
MOST_FILLED = 256


class Best:
    """The greatest number of members that a book can have, and the first such book."""

    def __init__(self, number, book):
        self.number = number
        self.book = book

    def __eq__(self, other):
        return isinstance(other, Best) and self.number == other.number and self.book == other.book


def clash_ties(letters, length, lost):
    """Return all couples of words that come to a common word by so many letters lost."""
    _check_searched(letters, length, lost)
    words = all_words(letters, length)
    return tuple([
        (one, other) for at, one in enumerate(words) for other in words[at + 1:]
        if longest_common(one, other) >= length - lost
    ])


def _check_searched(letters, length, lost):
    """Raise BadLetters() or BadNumber() unless there are few enough words to search."""
    check_letters(letters)
    check_number(length, 1, MOST_LENGTH)
    if power_of(letters, length) > MOST_SEARCHED:
        raise BadNumber()
    check_number(lost, 1, length)


def best_books(letters, length, lost):
    """Return Best of the books of this length that bear so many letters lost."""
    _check_searched(letters, length, lost)
    words = all_words(letters, length)
    friends = _friends_of(words, length - lost)
    # What begins with the least word left stands on top, so the books of one
    # size are come to in their order, and only greater ones replace the best.
    best = ()
    begun = [((), words)]
    while begun:
        chosen, left = begun.pop()
        if len(chosen) > len(best):
            best = chosen
        if len(chosen) + len(left) > len(best):
            word = left[0]
            begun.append((chosen, left[1:]))
            begun.append((chosen + (word,), [other for other in left[1:] if other in friends[word]]))
    return Best(len(best), Book(letters, length, best))


def _friends_of(words, least):
    """For each word the words behind it whose common words with it have less than the least length."""
    friends = {}
    for at, one in enumerate(words):
        friends[one] = {
            other: True for other in words[at + 1:] if longest_common(one, other) < least
        }
    return friends


def filled_book(book, number):
    """Return the book with each word put in, in ascending order, that leaves it bearing number."""
    check_number(number, 1, book.length)
    if borne_of(book) < number:
        raise NotBorne(number)
    count = power_of(book.letters, book.length)
    if count > MOST_FILLED:
        raise TooMany(count)
    members = list(book.words)
    for word in all_words(book.letters, book.length):
        if all([longest_common(member, word) < book.length - number for member in members]):
            members.append(word)
    return Book(book.letters, book.length, members)
