"""Whole numbers, letters and words: what they are, and new words made of them."""

from math import comb

from lostplaces.errors import BadLetters, BadNumber, BadText, BadWord

MOST_LETTERS = 24
SIGNS = "0123"


def is_whole(thing, low=None, high=None):
    """Tell whether the thing is an integer, no bool, within the bounds that are told."""
    if not isinstance(thing, int) or isinstance(thing, bool):
        return False
    return (low is None or thing >= low) and (high is None or thing <= high)


def check_number(thing, low, high):
    """Return the thing, or raise BadNumber() unless it is an integer from low to high."""
    if not is_whole(thing, low, high):
        raise BadNumber()
    return thing


def check_letters(letters):
    """Return the number of letters, or raise BadLetters() unless it is 2, 3 or 4."""
    if not is_whole(letters, 2, 4):
        raise BadLetters()
    return letters


def power_of(base, exponent):
    """Return base to the power of an exponent from 0 to 200."""
    power = 1
    for _ in range(exponent):
        power = power * base
    return power


def choose_of(many, taken):
    """Return C(many, taken), the number of ways to choose taken of many things."""
    # comb refuses numbers below 0, and here they are good arguments.
    if taken < 0 or taken > many:
        return 0
    return comb(many, taken)


def check_word(letters, word, most=24):
    """Return the word as a tuple, or raise BadWord with the first wrong index."""
    if not isinstance(word, (list, tuple)) or len(word) > most:
        raise BadWord(-1)
    for index, letter in enumerate(word):
        if not is_whole(letter, 0, letters - 1):
            raise BadWord(index)
    return tuple(word)


def is_word(letters, length, thing):
    """Tell whether the thing is a word of just so many letters."""
    if not isinstance(thing, (list, tuple)) or len(thing) != length:
        return False
    return all([is_whole(letter, 0, letters - 1) for letter in thing])


def all_words(letters, length):
    """Return the list of all words of this length, ascending."""
    words = [()]
    for _ in range(length):
        words = [word + (letter,) for word in words for letter in range(letters)]
    return words


def word_text(word):
    """Return the letters of the word as digits without anything between."""
    return "".join([str(letter) for letter in check_word(4, word)])


def word_of_text(letters, text):
    """Return the word with this text, or raise BadText with the first wrong place."""
    check_letters(letters)
    if not isinstance(text, str):
        raise BadText(0)
    signs = SIGNS[:letters]
    for place, sign in enumerate(text):
        if place >= MOST_LETTERS or sign not in signs:
            raise BadText(place)
    return tuple([int(sign) for sign in text])


def letter_lost(word, place):
    """Return the word without the letter at the place, counted from 1."""
    word = check_word(4, word)
    check_number(place, 1, len(word))
    return word[:place - 1] + word[place:]


def letter_put(word, place, letter):
    """Return the longer word whose letter at the place, counted from 1, is the new one."""
    word = check_word(4, word)
    check_number(place, 1, len(word) + 1)
    check_number(letter, 0, 3)
    return word[:place - 1] + (letter,) + word[place - 1:]


def turned_word(word):
    """Return the word read from its last letter to its first."""
    return check_word(4, word)[::-1]


def contrary_word(word):
    """Return the word of two letters with 0 and 1 exchanged."""
    return tuple([1 - letter for letter in check_word(2, word)])
