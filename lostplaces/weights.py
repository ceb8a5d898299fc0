"""Weights, and the books that are told by sums of weights."""

from lostplaces.errors import BadModulus, BadRest, BadWeights, TooMany
from lostplaces.words import (
    MOST_LETTERS, all_words, check_letters, check_number, check_word, is_whole, power_of,
)

# 10 to the power of 15 and of 16.
GREATEST_WEIGHT = 1000000000000000
GREATEST_MODULUS = 10000000000000000
MOST_LISTED = 2048
MOST_RESTS = 4096


def check_weights(weights):
    """Return the weights as a tuple, or raise BadWeights with the first wrong index."""
    if not isinstance(weights, (list, tuple)) or len(weights) > MOST_LETTERS:
        raise BadWeights(-1)
    for index, weight in enumerate(weights):
        if not is_whole(weight, 1, GREATEST_WEIGHT):
            raise BadWeights(index)
    return tuple(weights)


def steep_by(letters, weights):
    """Return the greatest number, up to that of the weights, by which they are steep."""
    check_letters(letters)
    weights = check_weights(weights)
    number = 0
    while number < len(weights) and _are_steep(letters, weights, number + 1):
        number += 1
    return number


def _are_steep(letters, weights, number):
    """Whether each weight is greater than what so many weights ahead of it can count."""
    return all([
        weight >= _above_last(letters, weights[:at], number) for at, weight in enumerate(weights)
    ])


def _above_last(letters, weights, number):
    """The least number that is greater than what the last so many weights can count."""
    return 1 + (letters - 1) * sum(weights[max(0, len(weights) - number):])


def steep_modulus(letters, weights, lost):
    """Return the least modulus by which weights that are steep by lost make books that bear it."""
    check_letters(letters)
    weights = check_weights(weights)
    check_number(lost, 0, MOST_LETTERS)
    return _above_last(letters, weights, lost)


def weights_for(letters, lost, length):
    """Return the least weights that are steep by lost, and their steep modulus behind them."""
    check_letters(letters)
    check_number(lost, 0, MOST_LETTERS)
    check_number(length, 0, MOST_LETTERS)
    told = []
    for _ in range(length + 1):
        told.append(_above_last(letters, told, lost))
    return tuple(told)


class WeightBook:
    """All words of one length whose sum by weights leaves one rest by the modulus."""

    def __init__(self, letters, weights, modulus, rest):
        check_letters(letters)
        self.weights = check_weights(weights)
        check_modulus(modulus)
        if not is_whole(rest, 0, modulus - 1):
            raise BadRest()
        self.letters = letters
        self.length = len(weights)
        self.modulus = modulus
        self.rest = rest

    def __eq__(self, other):
        return (
            isinstance(other, WeightBook) and self.letters == other.letters
            and self.weights == other.weights and self.modulus == other.modulus
            and self.rest == other.rest
        )

    def has(self, word):
        """Tell whether the word is a member; words of another length are none."""
        word = check_word(self.letters, word)
        if len(word) != self.length:
            return False
        return sum_by(self.weights, word) % self.modulus == self.rest


def check_modulus(modulus):
    """Raise BadModulus() unless this is a modulus of a weight book."""
    if not is_whole(modulus, 1, GREATEST_MODULUS):
        raise BadModulus()


def sum_by(weights, word):
    """The sum by weights of a word with as many letters, without checks."""
    return sum([weight * letter for weight, letter in zip(weights, word)])


def weight_members(book):
    """Yield the members of a weight book, ascending."""
    count = power_of(book.letters, book.length)
    if count > MOST_LISTED:
        raise TooMany(count)
    for word in all_words(book.letters, book.length):
        if sum_by(book.weights, word) % book.modulus == book.rest:
            yield word


def rest_sizes(letters, weights, modulus):
    """Return for each rest how many members its weight book has."""
    check_letters(letters)
    weights = check_weights(weights)
    check_modulus(modulus)
    return tuple(_sizes(letters, weights, modulus))


def _sizes(letters, weights, modulus):
    """The sizes of all rests, worked out weight by weight; TooMany if there are too many."""
    if modulus > MOST_RESTS:
        raise TooMany(modulus)
    sizes = [1] + [0] * (modulus - 1)
    for weight in weights:
        moved = [_moved_on(sizes, letter * weight % modulus) for letter in range(letters)]
        sizes = [sum(column) for column in zip(*moved)]
    return sizes


def _moved_on(sizes, amount):
    """The sizes with each rest greater by an amount below the modulus."""
    left = len(sizes) - amount
    return sizes[left:] + sizes[:left]


def weight_size(book):
    """Return the number of members of a weight book."""
    return _sizes(book.letters, book.weights, book.modulus)[book.rest]


def richest_rest(letters, weights, modulus):
    """Return the least rest that has the greatest size, and this size."""
    sizes = rest_sizes(letters, weights, modulus)
    greatest = max(sizes)
    return (sizes.index(greatest), greatest)
