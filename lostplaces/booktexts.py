"""Texts of books: writing a book as a string and reading it again."""

from lostplaces.books import MOST_MEMBERS, Book
from lostplaces.errors import BadText
from lostplaces.words import SIGNS

FIGURES = "0123456789"
# The second figure of a length, for each first one, so that it is at most 24.
SECOND_FIGURES = {"1": "0123456789", "2": "01234"}


def book_text(book):
    """Return the letters, the length and the members of the book as a string."""
    words = ["".join([str(letter) for letter in member]) or "-" for member in book.words]
    return " ".join([f"{book.letters} {book.length}:"] + words)


def book_of_text(text):
    """Return the book of a text, or raise BadText with the first wrong place."""
    if not isinstance(text, str):
        raise BadText(0)
    letters = int(_sign_at(text, 0, "234"))
    _sign_at(text, 1, " ")
    length, place = _read_length(text, 2)
    words = []
    while place < len(text):
        _sign_at(text, place, " " if len(words) < MOST_MEMBERS else "")
        words.append(_read_member(text, place + 1, letters, length))
        place = place + 1 + max(length, 1)
    return Book(letters, length, words)


def _sign_at(text, place, signs):
    """The sign at the place, if it is one of these; else, also at the end, BadText."""
    if place >= len(text) or text[place] not in signs:
        raise BadText(place)
    return text[place]


def _read_length(text, place):
    """The length that is written from the place on, and the place behind its colon."""
    figures = _sign_at(text, place, FIGURES)
    sign = _sign_at(text, place + 1, ":" + SECOND_FIGURES.get(figures, ""))
    if sign == ":":
        return (int(figures), place + 2)
    _sign_at(text, place + 2, ":")
    return (int(figures + sign), place + 3)


def _read_member(text, place, letters, length):
    """The member that is written from the place on."""
    if length == 0:
        _sign_at(text, place, "-")
        return ()
    signs = SIGNS[:letters]
    return tuple([int(_sign_at(text, place + at, signs)) for at in range(length)])
