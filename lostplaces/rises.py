"""The places at which a word rises."""

from lostplaces.words import check_word

MOST_HERE = 61


def rises_of(word):
    """Return the places, from 1, behind which a letter follows that is no less, ascending."""
    word = check_word(4, word, MOST_HERE)
    return tuple([place for place in range(1, len(word)) if word[place] >= word[place - 1]])


def rise_word(word):
    """Return the word of one letter fewer that has 1 at each rising place and 0 elsewhere."""
    word = check_word(4, word, MOST_HERE)
    return tuple([1 if word[place] >= word[place - 1] else 0 for place in range(1, len(word))])


def rise_sum(word):
    """Return the sum of the rising places."""
    return sum(rises_of(word))
