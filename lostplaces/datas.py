"""Data in words: letters at free places, and fixed places that give the word its rest."""

from lostplaces.errors import BadBits, BadRest, BadWord
from lostplaces.sums import place_sum
from lostplaces.words import check_number, check_word, is_whole

MOST_LENGTH = 200


def free_places(length, *, wrong=False):
    """Return the places, ascending, that are not fixed to give the word its rest."""
    check_number(length, 1, MOST_LENGTH)
    fixed = _fixed_places(length)
    if wrong:
        fixed.append(length)
    return tuple([place for place in range(1, length + 1) if place not in fixed])


def _fixed_places(length):
    """The places 1, 2, 4, .. up to the length."""
    fixed = []
    place = 1
    while place <= length:
        fixed.append(place)
        place = 2 * place
    return fixed


def data_word(length, rest, bits, *, wrong=False):
    """Return the word of this rest that holds the bits at its free places."""
    places = free_places(length, wrong=wrong)
    modulus = 2 * length if wrong else length + 1
    if not is_whole(rest, 0, modulus - 1):
        raise BadRest()
    bits = _check_bits(bits, len(places))
    word = [0] * length
    for place, bit in zip(places, bits):
        word[place - 1] = bit
    lacking = (rest - place_sum(word)) % modulus
    fixed = _fixed_places(length)
    # Beyond what the powers of 2 can count, the last place takes its share; a
    # length that is a power of 2 is one of them, and they count all.
    if lacking > sum(fixed):
        word[length - 1] = 1
        lacking -= length
    for place in fixed:
        if lacking & place:
            word[place - 1] = 1
    return tuple(word)


def _check_bits(bits, many):
    """Return just so many bits as a tuple, or raise BadBits with the first wrong index."""
    if not isinstance(bits, (list, tuple)) or len(bits) != many:
        raise BadBits(-1)
    for index, bit in enumerate(bits):
        if not is_whole(bit, 0, 1):
            raise BadBits(index)
    return tuple(bits)


def data_of(word, *, wrong=False):
    """Return the letters at the free places of the word."""
    word = check_word(2, word, MOST_LENGTH)
    if not word:
        raise BadWord(-1)
    return tuple([word[place - 1] for place in free_places(len(word), wrong=wrong)])
