"""Units: the members of a book, each with a mark behind it, of which each may lose one letter."""

from lostplaces.below import below_words
from lostplaces.errors import BadLosses, BadMark, NoMember, TooMany
from lostplaces.runs import count_runs
from lostplaces.words import MOST_LETTERS, is_whole, is_word, power_of

MOST_PIECES = 200
MOST_WRITTEN = 60


class Units:
    """A book and a mark, with all that its units can leave when they lose at most one letter."""

    def __init__(self, book, mark):
        self.mark = _check_mark(book, mark)
        self.book = book
        self.length = book.length + len(self.mark)
        rows = [(member + self.mark, member) for member in book.words]
        count = len(rows) + sum([count_runs(unit) for unit, _ in rows])
        if count > MOST_PIECES:
            raise TooMany(count)
        self.pieces = _pieces_of(rows)

    def __eq__(self, other):
        return isinstance(other, Units) and self.book == other.book and self.mark == other.mark


def _check_mark(book, mark):
    """Return the mark as a tuple, or raise BadMark() if it makes no units of 2 to 24 letters."""
    if not isinstance(mark, (list, tuple)):
        raise BadMark()
    if not is_whole(book.length + len(mark), 2, MOST_LETTERS):
        raise BadMark()
    if not is_word(book.letters, len(mark), mark):
        raise BadMark()
    return tuple(mark)


def _pieces_of(rows):
    """The couples (word, member) of all that the units leave, ascending."""
    pieces = []
    for unit, member in rows:
        pieces.append((unit, member))
        pieces.extend([(word, member) for word in below_words(unit, 1)])
    return tuple(sorted(pieces))


def unit_of(units, member):
    """Return the unit of the member, or raise NoMember()."""
    book = units.book
    if not is_word(book.letters, book.length, member) or tuple(member) not in book.words:
        raise NoMember()
    return tuple(member) + units.mark


def doubtful_piece(units):
    """Return the least word that two members can leave, with the two least of them, or None."""
    for piece, follower in zip(units.pieces, units.pieces[1:]):
        if piece[0] == follower[0]:
            return (piece[0], piece[1], follower[1])
    return None


def room_taken(units):
    """Return the room that the words of the pieces take among all words, and the whole room."""
    letters = units.book.letters
    words = {word for word, _ in units.pieces}
    whole = len([word for word in sorted(words) if len(word) == units.length])
    taken = whole + letters * (len(words) - whole)
    return (taken, power_of(letters, units.length))


def written_row(units, members, losses):
    """Return the row of the members' units, each without the letter at the place of its loss."""
    if not isinstance(members, (list, tuple)) or len(members) > MOST_WRITTEN:
        raise NoMember()
    written = [unit_of(units, member) for member in members]
    if not isinstance(losses, (list, tuple)) or len(losses) != len(members):
        raise BadLosses(-1)
    for index, place in enumerate(losses):
        if place is not None and not is_whole(place, 1, units.length):
            raise BadLosses(index)
    row = []
    for unit, place in zip(written, losses):
        row.extend(unit if place is None else unit[:place - 1] + unit[place:])
    return tuple(row)
