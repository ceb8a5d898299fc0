"""Edits of units: members put in and taken out, other marks, all turned about."""

from lostplaces.books import MOST_MEMBERS
from lostplaces.errors import BadEdit, BadMark, TooMany
from lostplaces.units import Units
from lostplaces.words import is_word

MOST_EDITS = 12
# How many entries an edit has, by its first word.
ENTRIES = {"put": 2, "strike": 2, "mark": 2, "turn": 1}


def edited_units(units, edits):
    """Return the units behind all edits, or raise BadEdit with the first wrong one."""
    check_edits(edits, MOST_EDITS)
    for index, edit in enumerate(edits):
        units = _units_behind(units, edit, index)
    return units


def check_edits(edits, most):
    """Raise BadEdit(-1, "many") unless this is a sequence of at most so many edits."""
    if not isinstance(edits, (list, tuple)) or len(edits) > most:
        raise BadEdit(-1, "many")


def _units_behind(units, edit, index):
    """The units behind one edit, which stands at this index."""
    kind = _kind_of(edit, index)
    book = units.book
    if kind == "put":
        return _units_of(_book_with(book, edit[1], index), units.mark, index)
    if kind == "strike":
        return _units_of(_book_without(book, edit[1], index), units.mark, index)
    if kind == "mark":
        return _units_of(book, edit[1], index)
    return _units_of(book.turned(), units.mark[::-1], index)


def _kind_of(edit, index):
    """The first word of an edit with as many entries as it asks for."""
    if not isinstance(edit, (list, tuple)) or not edit or not isinstance(edit[0], str):
        raise BadEdit(index, "kind")
    if ENTRIES.get(edit[0], 0) != len(edit):
        raise BadEdit(index, "kind")
    return edit[0]


def _book_with(book, word, index):
    """The book with one more member."""
    _check_word(book, word, index)
    if book.has(word):
        raise BadEdit(index, "there")
    if book.size == MOST_MEMBERS:
        raise BadEdit(index, "full")
    return book.put(word)


def _book_without(book, word, index):
    """The book without one of its members."""
    _check_word(book, word, index)
    if not book.has(word):
        raise BadEdit(index, "lacking")
    return book.struck(word)


def _check_word(book, word, index):
    """Raise BadEdit unless this is a word of the book's letters and length."""
    if not is_word(book.letters, book.length, word):
        raise BadEdit(index, "word")


def _units_of(book, mark, index):
    """The units of a book and a mark, or BadEdit if there are none."""
    try:
        return Units(book, mark)
    except BadMark:
        raise BadEdit(index, "mark") from None
    except TooMany:
        raise BadEdit(index, "full") from None
