"""The web of rest words: how far two cuttings of one row can be ahead of each other."""


class Web:
    """The starts, the rest words that are come to, and the steps between them."""

    def __init__(self, starts, rests, steps):
        self.starts = starts
        self.rests = rests
        self.steps = steps

    def __eq__(self, other):
        return (
            isinstance(other, Web) and self.starts == other.starts
            and self.rests == other.rests and self.steps == other.steps
        )


def heads_of(units):
    """Each beginning of a piece's word, the empty and the whole one too, with these pieces."""
    heads = {}
    for piece in units.pieces:
        word = piece[0]
        for many in range(len(word) + 1):
            heads.setdefault(word[:many], []).append(piece)
    return heads


def rest_web(units):
    """Return the web of all rest words that two cuttings of one row can come to."""
    heads = heads_of(units)
    starts = _starts_of(units, heads)
    onward = {}
    found = [start[2] for start in starts]
    while found:
        rest = found.pop()
        if rest not in onward:
            onward[rest] = _steps_from(heads, rest)
            found.extend([step[2] for step in onward[rest]])
    rests = tuple(sorted(onward))
    return Web(starts, rests, tuple([step for rest in rests for step in onward[rest]]))


def _starts_of(units, heads):
    """All couples of pieces of which one's word begins the other's, with what is beyond it."""
    # The pieces are ascending, so those behind one are just the greater ones.
    return tuple([
        (one, other, other[0][len(one[0]):])
        for one in units.pieces for other in heads[one[0]] if one < other
    ])


def _steps_from(heads, rest):
    """The steps of the piece that is behind by this rest word, in the order of pieces."""
    if not rest:
        return []
    # No rest word is longer than a piece's word: it is what a unit has beyond
    # one letter or more, so it always begins the word of a piece that fits.
    return [(rest, piece, piece[0][len(rest):]) for piece in heads.get(rest, [])]
