"""Rotations of words, and rings: all rotations of one word."""

from lostplaces.divisors import divisors_of, mu_of
from lostplaces.errors import BadRest, BadWord
from lostplaces.words import all_words, check_number, check_word, is_whole

MOST_LISTED = 10
MOST_LENGTH = 201


def rotations_of(word):
    """Return the rotations by 0, 1, .. letters, equal ones too."""
    word = check_word(4, word)
    if not word:
        raise BadWord(-1)
    return tuple([word[taken:] + word[:taken] for taken in range(len(word))])


def least_rotation(word):
    """Return the least rotation of the word."""
    return min(rotations_of(word))


def repeats_of(word):
    """Return how many rotations of the word are equal to it."""
    rotations = rotations_of(word)
    return rotations.count(rotations[0])


def odd_rings(length):
    """Return the least rotations of all rings with an odd number of ones, ascending."""
    check_number(length, 1, MOST_LISTED)
    return tuple([
        word for word in all_words(2, length)
        if sum(word) % 2 == 1 and least_rotation(word) == word
    ])


def single_rings(length):
    """Return how many odd rings of this length have 1 repeat."""
    check_number(length, 1, MOST_LENGTH)
    total = sum([
        mu_of(part) * (1 << (length // part)) for part in divisors_of(length) if part % 2 == 1
    ])
    return total // (2 * length)


def rings_for(length, rest):
    """Return the odd rings of one letter more whose number of repeats divides the rest."""
    check_number(length, 0, MOST_LISTED - 1)
    if not is_whole(rest, 0, length):
        raise BadRest()
    return tuple([ring for ring in odd_rings(length + 1) if rest % repeats_of(ring) == 0])
