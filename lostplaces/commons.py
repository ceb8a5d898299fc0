"""Words below or above two words, and words by letters lost and put in."""

from lostplaces.above import above_count, above_words
from lostplaces.below import MOST_WORDS, below_count, below_words, is_below, place_behind
from lostplaces.errors import TooMany
from lostplaces.words import check_letters, check_number, check_word

MOST_HERE = 48


def common_length(one, other):
    """Return the length of the longest words below both words."""
    one = check_word(4, one, MOST_HERE)
    return longest_common(one, check_word(4, other, MOST_HERE))


def longest_common(one, other):
    """The length of common_length, for words of any length and without checks."""
    # One number stands for a whole row of the table of lengths: its bit k is 0
    # where the length grows from the first k letters of one to the first
    # k + 1. A sum carries each new growth to its place, so a row takes one
    # step; books ask for thousands of couples.
    bits_of = {}
    for at, letter in enumerate(one):
        bits_of[letter] = bits_of.get(letter, 0) | (1 << at)
    full = (1 << len(one)) - 1
    row = full
    for letter in other:
        met = row & bits_of.get(letter, 0)
        row = ((row + met) | (row - met)) & full
    not_met = f"{row:b}"
    return len(one) - not_met.count("1")


def _common_table(one, other):
    """Item [i][j] is the greatest common length of the words from i and from j on."""
    table = [[0] * (len(other) + 1) for _ in range(len(one) + 1)]
    for i in range(len(one) - 1, -1, -1):
        for j in range(len(other) - 1, -1, -1):
            if one[i] == other[j]:
                table[i][j] = table[i + 1][j + 1] + 1
            else:
                table[i][j] = max(table[i + 1][j], table[i][j + 1])
    return table


def common_word(one, other):
    """Return the least of the longest words below both words."""
    one = check_word(4, one, MOST_HERE)
    other = check_word(4, other, MOST_HERE)
    table = _common_table(one, other)
    word = []
    i, j = 0, 0
    while table[i][j] > 0:
        letter, i, j = _least_step(one, other, table, i, j)
        word.append(letter)
    return tuple(word)


def _least_step(one, other, table, i, j):
    """The least letter that begins a longest common word, and the indexes behind it."""
    # A letter of the longest words is taken at its first places: they leave
    # no less than any later ones.
    for letter in range(4):
        at = place_behind(one, letter, i)
        to = place_behind(other, letter, j)
        if at is not None and to is not None and table[at][to] + 1 == table[i][j]:
            return (letter, at, to)


def shortest_above(one, other):
    """Return a shortest word above both words."""
    one = check_word(4, one, MOST_HERE)
    other = check_word(4, other, MOST_HERE)
    table = _common_table(one, other)
    word = []
    i, j = 0, 0
    while i < len(one) and j < len(other):
        if one[i] == other[j]:
            word.append(one[i])
            i, j = i + 1, j + 1
        elif table[i + 1][j] >= table[i][j + 1]:
            word.append(one[i])
            i = i + 1
        else:
            word.append(other[j])
            j = j + 1
    return tuple(word) + one[i:] + other[j:]


def shortest_fault(one, other, word):
    """Judge a word as a shortest one above both: None, "one", "other" or "length"."""
    one = check_word(4, one, MOST_HERE)
    other = check_word(4, other, MOST_HERE)
    word = check_word(4, word, 2 * MOST_HERE)
    if not is_below(one, word):
        return "one"
    if not is_below(other, word):
        return "other"
    if len(word) > len(one) + len(other) - longest_common(one, other):
        return "length"
    return None


def come_to(letters, word, lost, put):
    """Return all words by just lost letters lost, then just put letters put in, ascending."""
    check_letters(letters)
    word = check_word(letters, word)
    check_number(lost, 0, 24)
    check_number(put, 0, 24)
    if lost > len(word):
        return ()
    count = below_count(word, lost) * above_count(letters, len(word) - lost, put)
    if count > MOST_WORDS:
        raise TooMany(count)
    return tuple(sorted({
        long for short in below_words(word, lost) for long in above_words(letters, short, put)
    }))
