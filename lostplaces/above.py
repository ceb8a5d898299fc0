"""Words above a word: those that come of it by letters put in."""

from lostplaces.below import MOST_WORDS
from lostplaces.errors import TooMany
from lostplaces.words import check_letters, check_number, check_word, choose_of, power_of


def above_words(letters, word, put):
    """Return all words above the word by so many letters put in, each once, ascending."""
    check_letters(letters)
    word = check_word(letters, word)
    check_number(put, 0, 24)
    count = _count(letters, len(word), put)
    if count > MOST_WORDS:
        raise TooMany(count)
    return tuple(_words_of_length(letters, word, len(word) + put))


def _words_of_length(letters, word, length):
    """The words of this length above the word, ascending."""
    # Beside each beginning stands how many letters of the word it holds, taken
    # as early as can be; it is kept only while there is room for the others.
    begun = [((), 0)]
    for room in range(length - 1, -1, -1):
        longer = []
        for head, held in list(begun):
            for letter in range(letters):
                more = held
                if held < len(word) and letter == word[held]:
                    more = held + 1
                if len(word) - more <= room:
                    longer.append((head + (letter,), more))
        begun = longer
    return [head for head, _ in begun]


def above_count(letters, length, put):
    """Return how many words are above a word of this length by so many letters put in."""
    check_letters(letters)
    check_number(length, 0, 60)
    check_number(put, 0, 60)
    return _count(letters, length, put)


def _count(letters, length, put):
    """The sum of above_count, without checks."""
    return sum([
        choose_of(length + put, taken) * power_of(letters - 1, taken)
        for taken in range(put + 1)
    ])
