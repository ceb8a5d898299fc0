"""Words below a word: those that come of it by letters lost."""

from lostplaces.errors import TooMany
from lostplaces.words import check_letters, check_number, check_word, choose_of

MOST_WORDS = 2000


def below_words(word, lost):
    """Return all words below the word by so many letters lost, each once, ascending."""
    word = check_word(4, word)
    check_number(lost, 0, 24)
    count = _count_of_length(word, len(word) - lost)
    if count > MOST_WORDS:
        raise TooMany(count)
    if count == 0:
        return ()
    return tuple(_words_of_length(word, len(word) - lost))


def _words_of_length(word, length):
    """The words of this length below the word, ascending."""
    # Each beginning that is kept can still be finished, so there are never
    # more beginnings than words in the end; the first place that fits leaves
    # the most letters, so each beginning stands here just once.
    begun = [((), 0)]
    for done in range(length):
        longer = []
        for head, start in list(begun):
            for letter in range(4):
                behind = place_behind(word, letter, start)
                if behind is not None and len(word) - behind >= length - done - 1:
                    longer.append((head + (letter,), behind))
        begun = longer
    return [head for head, _ in begun]


def place_behind(word, letter, start):
    """The index just behind the first such letter from start on, or None."""
    for at in range(start, len(word)):
        if word[at] == letter:
            return at + 1
    return None


def below_count(word, lost):
    """Return how many words are below the word by so many letters lost."""
    word = check_word(4, word, 60)
    check_number(lost, 0, 60)
    return _count_of_length(word, len(word) - lost)


def _count_of_length(word, length):
    """How many unlike words of this length are below the word; 0 for a length below 0."""
    # counts[letter][k] is the number of words of k letters below the letters
    # read so far that end with this letter: the last such letter read can
    # always be their end, so it takes all words of one letter fewer.
    if length < 0:
        return 0
    counts = [[0] * (length + 1) for _ in range(4)]
    for letter in word:
        totals = _totals(counts)
        counts[letter] = [0] + totals[:length]
    return _totals(counts)[length]


def _totals(counts):
    """The numbers of words of each length, the empty word among them."""
    totals = [sum(column) for column in zip(*counts)]
    totals[0] = 1
    return totals


def greatest_below(letters, length, lost):
    """Return the greatest number of words that a word of this length has below by lost."""
    check_letters(letters)
    check_number(length, 0, 40)
    check_number(lost, 0, 40)
    return _greatest(letters, length, lost)


def _greatest(letters, length, lost):
    """The sum by which the greatest number is told, without checks."""
    if lost > length:
        return 0
    if letters == 1 or lost == 0:
        return 1
    return sum([
        choose_of(length - lost, taken) * _greatest(letters - 1, lost, lost - taken)
        for taken in range(lost + 1)
    ])


def below_bounds(runs, lost):
    """Return the least and the greatest number of words below a word of so many runs."""
    check_number(runs, 0, 60)
    check_number(lost, 0, 60)
    if lost == 0:
        return (1, 1)
    return (choose_of(runs - lost + 1, lost), choose_of(runs + lost - 1, lost))


def below_places(short, long):
    """Return the first places, from 1, that the letters of short take in long, or None."""
    short = check_word(4, short)
    return first_places(short, check_word(4, long))


def first_places(short, long):
    """The places of below_places, for words of any length and without checks."""
    places = []
    behind = 0
    for letter in short:
        behind = place_behind(long, letter, behind)
        if behind is None:
            return None
        places.append(behind)
    return tuple(places)


def is_below(short, long):
    """Tell whether one word is below another, for words of any length, without checks."""
    return first_places(short, long) is not None
