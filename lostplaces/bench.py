"""The bench: units while one edits them, with a log by which each deed can be taken back."""

from lostplaces.bests import filled_book
from lostplaces.cuttings import Told, cuts_told
from lostplaces.doubles import runs_borne
from lostplaces.edits import edited_units
from lostplaces.errors import BadEdit, NothingDone, TooMany
from lostplaces.judged import borne_of
from lostplaces.mends import goal_met
from lostplaces.units import Units


class Tried:
    """What the units behind some edits are like."""

    def __init__(self, many, borne, runs, told, met):
        self.many = many
        self.borne = borne
        self.runs = runs
        self.told = told
        self.met = met

    def __eq__(self, other):
        return (
            isinstance(other, Tried) and self.many == other.many and self.borne == other.borne
            and self.runs == other.runs and self.told == other.told and self.met == other.met
        )


class Bench:
    """Units as they stand, and the deeds that led to them."""

    def __init__(self, units):
        self.present = units
        # For each deed its word and the units that it was done to.
        self._done = []

    def __len__(self):
        return len(self._done)

    @property
    def log(self):
        """The words of the deeds, in order."""
        return tuple([word for word, _ in self._done])

    def do_edit(self, edit):
        """Do one edit and log its first word."""
        units = edited_units(self.present, [edit])
        self._keep(edit[0], units)

    def do_fill(self, number):
        """Put the filled book into the place of the book and log "fill"."""
        book = filled_book(self.present.book, number)
        try:
            units = Units(book, self.present.mark)
        except TooMany:
            raise BadEdit(0, "full") from None
        self._keep("fill", units)

    def _keep(self, word, units):
        """Log the word of a deed that led to these units."""
        self._done.append((word, self.present))
        self.present = units

    def take_back(self):
        """Undo the last deed and drop its word."""
        if not self._done:
            raise NothingDone()
        _, self.present = self._done.pop()

    def trial(self, edits, *, goal=None):
        """Return Tried for the units behind the edits; the bench stays as it is."""
        units = edited_units(self.present, edits)
        met = None if goal is None else goal_met(units, goal)
        told = isinstance(cuts_told(units), Told)
        return Tried(units.book.size, borne_of(units.book), runs_borne(units.book), told, met)
