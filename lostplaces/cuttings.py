"""Cuttings of rows into pieces, and whether there is one way only to cut a row."""

from lostplaces.judged import borne_of
from lostplaces.restwords import heads_of, rest_web
from lostplaces.words import check_number, check_word, is_whole

MOST_CUT = 200
MOST_MARKED = 10


class Told:
    """The cuts are told, within so many letters, and two cuttings that need them all."""

    def __init__(self, wait, first, second):
        self.wait = wait
        self.first = first
        self.second = second

    def __eq__(self, other):
        return (
            isinstance(other, Told) and self.wait == other.wait
            and self.first == other.first and self.second == other.second
        )


class Clash:
    """Two unlike cuttings of one endless row, each a couple (head, round) of tuples of pieces."""

    def __init__(self, first, second):
        self.first = first
        self.second = second

    def __eq__(self, other):
        return isinstance(other, Clash) and self.first == other.first and self.second == other.second


class TwoCuts:
    """Two unlike cuttings of one finite row."""

    def __init__(self, first, second):
        self.first = first
        self.second = second

    def __eq__(self, other):
        return (
            isinstance(other, TwoCuts) and self.first == other.first and self.second == other.second
        )


def count_cuttings(units, row):
    """Return the number of unlike cuttings of the row."""
    row = check_word(units.book.letters, row, MOST_CUT)
    return _ways_behind(units, row)[0]


def _ways_behind(units, row):
    """Item [at] is the number of cuttings of what the row has from this index on."""
    many_of = {}
    for word, _ in units.pieces:
        many_of[word] = many_of.get(word, 0) + 1
    ways = [0] * len(row) + [1]
    for at in range(len(row) - 1, -1, -1):
        for end in (at + units.length - 1, at + units.length):
            if end <= len(row):
                ways[at] += many_of.get(row[at:end], 0) * ways[end]
    return ways


def cut_row(units, row):
    """Return the cutting of the row that takes the first piece it can at each place, or None."""
    return first_cutting(units, check_word(units.book.letters, row, MOST_CUT))


def first_cutting(units, row):
    """The cutting of cut_row, for rows of any length and without checks."""
    ways = _ways_behind(units, row)
    if ways[0] == 0:
        return None
    heads = heads_of(units)
    cutting = []
    at = 0
    while at < len(row):
        piece = _first_piece(heads.get(row[at:at + units.length - 1], []), row, at, ways)
        cutting.append(piece)
        at += len(piece[0])
    return tuple(cutting)


def _first_piece(pieces, row, at, ways):
    """The first piece that stands at this index of the row and leaves a row that can be cut."""
    for piece in pieces:
        end = at + len(piece[0])
        if end <= len(row) and row[at:end] == piece[0] and ways[end] > 0:
            return piece
    return None


def cuts_told(units):
    """Return Told if no endless row has two unlike cuttings, else a Clash."""
    if not units.pieces:
        return Told(0, (), ())
    web = rest_web(units)
    onward = _onward(web)
    ways = _ways_to_rests(web, onward)
    if () in ways:
        first, second = ways[()]
        return Clash(((), first), ((), second))
    ended = _ended_rests(onward)
    if len(ended) < len(web.rests):
        return _clash_of_round(onward, ended, ways)
    return _told(units, web, _longest_on(units, onward, ended))


def _onward(web):
    """For each rest word its steps, as couples (piece, rest word beyond)."""
    onward = {rest: [] for rest in web.rests}
    for rest, piece, beyond in web.steps:
        onward[rest].append((piece, beyond))
    return onward


def _ways_to_rests(web, onward):
    """For each rest word two cuttings that come to it, the one that is behind first."""
    ways = {}
    for one, other, rest in web.starts:
        ways.setdefault(rest, ((one,), (other,)))
    reached = list(ways)
    at = 0
    while at < len(reached):
        rest = reached[at]
        behind, ahead = ways[rest]
        for piece, beyond in onward[rest]:
            # A piece is longer than what is left of it beyond, so the one
            # that was behind is ahead now.
            if beyond not in ways:
                ways[beyond] = (ahead, behind + (piece,))
                reached.append(beyond)
        at += 1
    return ways


def _ended_rests(onward):
    """The rest words that lead into no round, each one behind all those that it leads to."""
    left = {rest: len(onward[rest]) for rest in onward}
    earlier = {rest: [] for rest in onward}
    for rest in onward:
        for _, beyond in onward[rest]:
            earlier[beyond].append(rest)
    ended = [rest for rest in onward if left[rest] == 0]
    at = 0
    while at < len(ended):
        rest = ended[at]
        for before in earlier[rest]:
            left[before] -= 1
            if left[before] == 0:
                ended.append(before)
        at += 1
    return ended


def _clash_of_round(onward, ended, ways):
    """A Clash of two cuttings that go on by a round of rest words."""
    inner = {rest: True for rest in onward}
    for rest in ended:
        del inner[rest]
    rest = list(inner)[0]
    pieces = []
    place_of = {}
    while rest not in place_of:
        place_of[rest] = len(pieces)
        piece, beyond = [step for step in onward[rest] if step[1] in inner][0]
        pieces.append(piece)
        rest = beyond
    behind, ahead = ways[rest]
    # Each step exchanges the one behind and the one ahead, so two rounds
    # bring both back to their places.
    pieces = pieces[place_of[rest]:] * 2
    return Clash((behind, tuple(pieces[0::2])), (ahead, tuple(pieces[1::2])))


def _longest_on(units, onward, ended):
    """For each rest word (letters, piece, rest word beyond): how far both can still agree."""
    heads = heads_of(units)
    longest = {}
    for rest in ended:
        if onward[rest]:
            longest[rest] = max([
                (len(rest) + longest[beyond][0], piece, beyond) for piece, beyond in onward[rest]
            ], key=lambda going: going[0])
        else:
            alike = len(rest)
            while rest[:alike] not in heads:
                alike -= 1
            longest[rest] = (alike, heads[rest[:alike]][0], None)
    return longest


def _told(units, web, longest):
    """Told, with the two cuttings that agree longest."""
    one, other, rest = max(web.starts, key=lambda start: longest[start[2]][0])
    # No word is doubtful here, so the shorter one of a start has one letter
    # less than a unit, and one letter more than what agrees tells them apart.
    wait = units.length + longest[rest][0]
    behind, ahead = (one,), (other,)
    while rest is not None:
        _, piece, rest = longest[rest]
        behind, ahead = ahead, behind + (piece,)
    return Told(wait, behind, ahead)


def _are_pieces(units, items):
    """Whether each item is a piece of the units, with whole numbers alone as letters."""
    return all([
        item in units.pieces and all([is_whole(letter) for part in item for letter in part])
        for item in items
    ])


def _row_of(cutting):
    """The words of the pieces, one after the other."""
    return tuple([letter for word, _ in cutting for letter in word])


def _begins(head, ring, many):
    """The first so many items of the head and then the round again and again."""
    return (head + ring * (many // len(ring) + 1))[:many]


def _are_alike(head, ring, other_head, other_ring):
    """Whether two heads with rounds behind them are one endless row."""
    # Behind both heads two rows with these periods that agree for as many
    # letters as both periods have agree for ever.
    many = max(len(head), len(other_head)) + len(ring) + len(other_ring)
    return _begins(head, ring, many) == _begins(other_head, other_ring, many)


def clash_fault(units, clash):
    """Judge a Clash: None, "piece", "row" or "cuts"."""
    head, ring = clash.first
    other_head, other_ring = clash.second
    if not ring or not other_ring:
        return "piece"
    if not _are_pieces(units, head + ring + other_head + other_ring):
        return "piece"
    if not _are_alike(_row_of(head), _row_of(ring), _row_of(other_head), _row_of(other_ring)):
        return "row"
    if _are_alike(head, ring, other_head, other_ring):
        return "cuts"
    return None


def ends_told(units):
    """Return None if no finite row has two unlike cuttings, else TwoCuts of such a row."""
    web = rest_web(units)
    ways = _ways_to_rests(web, _onward(web))
    if () not in ways:
        return None
    first, second = ways[()]
    return TwoCuts(first, second)


def ends_fault(units, cuts):
    """Judge a TwoCuts: None, "piece", "row" or "cuts"."""
    if not _are_pieces(units, cuts.first + cuts.second):
        return "piece"
    if _row_of(cuts.first) != _row_of(cuts.second):
        return "row"
    if cuts.first == cuts.second:
        return "cuts"
    return None


def sure_mark(book):
    """Return a mark by which the cuts are told, or None if there is no such mark."""
    check_number(book.length, 0, MOST_MARKED)
    if book.size > 1 and borne_of(book) == 0:
        return None
    begun = [word[0] for word in book.words if word]
    free = [letter for letter in range(book.letters) if letter not in begun]
    if not free:
        return None
    # Both letters differ, and each is the least one that it can be.
    other = 1 if free[0] == 0 else 0
    return (other,) * (book.length + 2) + (free[0], free[0])
