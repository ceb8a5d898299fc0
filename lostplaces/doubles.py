"""Doubled and swallowed letters: deeds on runs, by which no run begins or ends."""

from lostplaces.below import MOST_WORDS
from lostplaces.errors import NoSuchRun, TooMany, TooShort
from lostplaces.runs import count_runs, lengths_of, shape_of, spelled_runs
from lostplaces.words import MOST_LETTERS, check_number, check_word, choose_of, is_whole

MOST_COUNTED = 60


class RunPair:
    """Two members of one shape, how far they are apart, and a word above and one below both."""

    def __init__(self, one, other, apart, longer, shorter):
        self.one = one
        self.other = other
        self.apart = apart
        self.longer = longer
        self.shorter = shorter

    def __eq__(self, other):
        return (
            isinstance(other, RunPair) and self.one == other.one and self.other == other.other
            and self.apart == other.apart and self.longer == other.longer
            and self.shorter == other.shorter
        )


def double_run(word, run):
    """Return the word with one more letter in the run, counted from 1."""
    word = check_word(4, word)
    last = _last_of_run(word, run)
    return word[:last] + word[last - 1:]


def swallow_run(word, run):
    """Return the word with one letter fewer in the run, which keeps one at least."""
    word = check_word(4, word)
    last = _last_of_run(word, run)
    if lengths_of(word)[run - 1] == 1:
        raise TooShort()
    return word[:last - 1] + word[last:]


def _last_of_run(word, run):
    """The last place of the run, or NoSuchRun() if there is none of this number."""
    if not is_whole(run, 1, count_runs(word)):
        raise NoSuchRun()
    return sum(lengths_of(word)[:run])


def doubled_words(word, times):
    """Return all words that come of the word by just so many doubled letters, ascending."""
    word = check_word(4, word)
    check_number(times, 0, MOST_LETTERS)
    lengths = lengths_of(word)
    count = doubled_count(len(lengths), times)
    if count > MOST_WORDS:
        raise TooMany(count)
    return _spelled(word, [
        [length + more for length, more in zip(lengths, parts)]
        for parts in _partings([times] * len(lengths), times)
    ])


def swallowed_words(word, times):
    """Return all words that come of the word by just so many swallowed letters, ascending."""
    word = check_word(4, word)
    check_number(times, 0, MOST_LETTERS)
    lengths = lengths_of(word)
    return _spelled(word, [
        [length - fewer for length, fewer in zip(lengths, parts)]
        for parts in _partings([length - 1 for length in lengths], times)
    ])


def _spelled(word, rows):
    """The words of the word's shape with these rows of lengths, ascending."""
    shape = shape_of(word)
    return tuple(sorted([spelled_runs(shape, lengths) for lengths in rows]))


def _partings(rooms, times):
    """All ways to part so many deeds among runs of which each takes as many as it has room for."""
    # Only beginnings that can still be finished are kept, so there are never
    # more of them than ways in the end.
    begun = [((), times)]
    for at, room in enumerate(rooms):
        behind = sum(rooms[at + 1:])
        begun = [
            (parts + (part,), left - part) for parts, left in begun
            for part in range(max(0, left - behind), min(room, left) + 1)
        ]
    return [parts for parts, left in begun if left == 0]


def doubled_count(runs, times):
    """Return how many words come of any word of so many runs by so many doubled letters."""
    check_number(runs, 0, MOST_COUNTED)
    check_number(times, 0, MOST_COUNTED)
    if runs == 0:
        return 1 if times == 0 else 0
    return choose_of(runs + times - 1, times)


def swallowed_count(word, times):
    """Return how many words come of the word by just so many swallowed letters."""
    word = check_word(4, word)
    check_number(times, 0, MOST_LETTERS)
    # Item k is the number of ways to part k deeds among the runs so far.
    ways = [1] + [0] * times
    for length in lengths_of(word):
        ways = [sum(ways[max(0, many - length + 1):many + 1]) for many in range(times + 1)]
    return ways[times]


def run_steps(one, other):
    """Return the fewest doubled and swallowed letters that turn one word into the other, or None."""
    one = check_word(4, one)
    other = check_word(4, other)
    if shape_of(one) != shape_of(other):
        return None
    return sum([abs(length - goal) for length, goal in zip(lengths_of(one), lengths_of(other))])


def _couples_of_one_shape(book):
    """The couples of members of one shape, in order, each member as (word, shape, lengths)."""
    rows = [(word, shape_of(word), lengths_of(word)) for word in book.words]
    return [
        (one, other) for at, one in enumerate(rows) for other in rows[at + 1:] if one[1] == other[1]
    ]


def _apart(one, other):
    """By how many letters the longer runs of one member outdo those of the other."""
    return sum([max(0, length - less) for length, less in zip(one[2], other[2])])


def runs_borne(book):
    """Return the greatest number of doubled or swallowed letters that the book bears."""
    couples = _couples_of_one_shape(book)
    return min([_apart(one, other) - 1 for one, other in couples], default=book.length)


def bears_runs(book, number):
    """Tell whether the book bears so many doubled or swallowed letters."""
    check_number(number, 0, book.length)
    return number <= runs_borne(book)


def runs_pair(book, number):
    """Return a RunPair that shows that the book does not bear the number on its runs, or None."""
    check_number(number, 0, book.length)
    for one, other in _couples_of_one_shape(book):
        apart = _apart(one, other)
        if apart <= number:
            longer = [max(length, less) for length, less in zip(one[2], other[2])]
            shorter = [min(length, less) for length, less in zip(one[2], other[2])]
            return RunPair(
                one[0], other[0], apart,
                spelled_runs(one[1], longer), spelled_runs(one[1], shorter),
            )
    return None
