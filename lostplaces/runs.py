"""Runs: the longest stretches of neighbouring equal letters of a word."""

from lostplaces.errors import BadLengths, BadShape
from lostplaces.words import MOST_LETTERS, check_word, is_whole


def count_runs(word):
    """Return how many runs the word has."""
    return len(shape_of(word))


def shape_of(word):
    """Return the letters of the runs, in order."""
    word = check_word(4, word)
    return tuple([letter for at, letter in enumerate(word) if at == 0 or letter != word[at - 1]])


def lengths_of(word):
    """Return the lengths of the runs, in order."""
    word = check_word(4, word)
    lengths = []
    for at, letter in enumerate(word):
        if at == 0 or letter != word[at - 1]:
            lengths.append(1)
        else:
            lengths[-1] += 1
    return tuple(lengths)


def check_shape(shape, most=24):
    """Return the shape as a tuple, or raise BadShape with the first wrong index."""
    if not isinstance(shape, (list, tuple)) or len(shape) > most:
        raise BadShape(-1)
    for index, letter in enumerate(shape):
        if not is_whole(letter, 0, 3):
            raise BadShape(index)
        if index > 0 and letter == shape[index - 1]:
            raise BadShape(index)
    return tuple(shape)


def word_of_runs(shape, lengths):
    """Return the only word with this shape and these lengths of its runs."""
    shape = check_shape(shape)
    if not isinstance(lengths, (list, tuple)) or len(lengths) != len(shape):
        raise BadLengths(-1)
    for index, length in enumerate(lengths):
        if not is_whole(length, 1, MOST_LETTERS):
            raise BadLengths(index)
    if sum(lengths) > MOST_LETTERS:
        raise BadLengths(-1)
    return spelled_runs(shape, lengths)


def spelled_runs(shape, lengths):
    """The word with this shape and these lengths, of any length and without checks."""
    word = []
    for letter, length in zip(shape, lengths):
        word.extend([letter] * length)
    return tuple(word)
