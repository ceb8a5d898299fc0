"""Streams: hearing an endless row of units letter by letter and telling its members."""

from lostplaces.cuttings import Told, cuts_told, first_cutting
from lostplaces.errors import BadLetter, NoSuchRow, NotTold
from lostplaces.restwords import heads_of
from lostplaces.words import is_whole


class Stream:
    """What was heard of a row: the members told so far and the letters not cut off yet."""

    def __init__(self, units):
        if not isinstance(cuts_told(units), Told):
            raise NotTold()
        self._units = units
        self._heads = heads_of(units)
        self.told = ()
        self.behind = ()
        self.heard = 0

    def hear(self, letter):
        """Hear one letter more and return the tuple of the members that it tells."""
        if not is_whole(letter, 0, self._units.book.letters - 1):
            raise BadLetter()
        behind = self.behind + (letter,)
        firsts = self._first_pieces(behind)
        if not firsts:
            raise NoSuchRow()
        fresh = []
        while len(firsts) == 1 and len(firsts[0][0]) <= len(behind):
            word, member = firsts[0]
            fresh.append(member)
            behind = behind[len(word):]
            firsts = self._first_pieces(behind)
        self.behind = behind
        self.told = self.told + tuple(fresh)
        self.heard += 1
        return tuple(fresh)

    def finish(self):
        """Return all members if what is behind ends with a whole piece, else None."""
        cutting = first_cutting(self._units, self.behind)
        if cutting is None:
            return None
        return self.told + tuple([member for _, member in cutting])

    def _first_pieces(self, behind):
        """The pieces with which the readings of these letters begin; none without letters."""
        if not behind:
            return []
        # goes_on[at] tells if the letters from this index on have a reading;
        # what ends at the end of the letters or beyond it needs none.
        goes_on = [True] * (len(behind) + self._units.length)
        for at in range(len(behind) - 1, 0, -1):
            goes_on[at] = len(self._fitting(behind, at, goes_on)) > 0
        return self._fitting(behind, 0, goes_on)

    def _fitting(self, behind, at, goes_on):
        """The pieces that stand at this index, or begin there, in front of what goes on."""
        found = []
        for piece in self._heads.get(behind[at:at + self._units.length - 1], []):
            end = at + len(piece[0])
            if piece[0][:len(behind) - at] == behind[at:end] and goes_on[end]:
                found.append(piece)
        return found
