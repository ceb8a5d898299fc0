"""Numbers of the members of a sum book, found without going through the members."""

from lostplaces.errors import BadModulus, BadNumber, NoMember, NoNumber
from lostplaces.sums import place_sum
from lostplaces.words import check_word, is_whole

MOST_LENGTH = 60
MOST_MODULUS = 1000


def _check_book(book):
    """Raise BadNumber() or BadModulus() unless the tables of the book are short."""
    if book.length > MOST_LENGTH:
        raise BadNumber()
    if book.modulus > MOST_MODULUS:
        raise BadModulus()


def _ways_behind(book):
    """Item [k][r]: how many choices of the letters behind place k have a place sum of rest r."""
    ways = [1] + [0] * (book.modulus - 1)
    rows = [ways]
    for place in range(book.length, 0, -1):
        # A 1 at this place moves the count of each rest on by the place.
        moved = ways[-place:] + ways[:-place]
        ways = [low + high for low, high in zip(ways, moved)]
        rows.append(ways)
    return rows[::-1]


def count_from(book, head):
    """Return how many members begin with the word."""
    _check_book(book)
    head = check_word(2, head, book.length)
    lacking = (book.rest - place_sum(head)) % book.modulus
    return _ways_behind(book)[len(head)][lacking]


def member_at(book, number):
    """Return the member with this number, counted from 0 in ascending order."""
    _check_book(book)
    rows = _ways_behind(book)
    if not is_whole(number, 0, rows[0][book.rest] - 1):
        raise NoNumber()
    lacking = book.rest
    word = []
    for place in range(1, book.length + 1):
        with_0 = rows[place][lacking]
        if number < with_0:
            word.append(0)
        else:
            number = number - with_0
            lacking = (lacking - place) % book.modulus
            word.append(1)
    return tuple(word)


def number_of(book, word):
    """Return the number of the member, counted from 0 in ascending order."""
    _check_book(book)
    word = check_word(2, word, book.length)
    if not book.has(word):
        raise NoMember()
    rows = _ways_behind(book)
    lacking = book.rest
    number = 0
    for place, letter in enumerate(word, start=1):
        if letter == 1:
            number += rows[place][lacking]
            lacking = (lacking - place) % book.modulus
    return number
