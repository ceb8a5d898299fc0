"""What the tests share: plain searches over all words, and how to expect an error."""

from itertools import combinations, product


def every_word(letters, length):
    """All words of one length, ascending."""
    return [tuple(word) for word in product(range(letters), repeat=length)]


def every_word_up_to(letters, most):
    """All words of at most so many letters."""
    return [word for length in range(most + 1) for word in every_word(letters, length)]


def plain_below(word, lost):
    """All words below the word by so many letters lost."""
    if lost > len(word):
        return set()
    return set(combinations(word, len(word) - lost))


def plain_above(letters, word, put):
    """All words above the word by so many letters put in, one letter after the other."""
    words = {tuple(word)}
    for _ in range(put):
        words = {
            old[:at] + (letter,) + old[at:]
            for old in words for at in range(len(old) + 1) for letter in range(letters)
        }
    return words


def plain_is_below(short, long):
    """Whether short comes of long by letters lost."""
    rest = iter(long)
    return all(letter in rest for letter in short)


def plain_common(one, other):
    """The length of the longest common words, by trying all words below one."""
    for lost in range(len(one) + 1):
        if any(plain_is_below(word, other) for word in plain_below(one, lost)):
            return len(one) - lost
    raise AssertionError("the empty word is below every word")


def table_common(one, other):
    """The same length by the usual table, for longer words."""
    row = [0] * (len(other) + 1)
    for letter in one:
        fresh = [0]
        for at, sign in enumerate(other):
            fresh.append(row[at] + 1 if letter == sign else max(row[at + 1], fresh[at]))
        row = fresh
    return row[-1]


def numbers(seed):
    """An endless row of numbers from 0 to 2 ** 31 - 1 that look like chance, always the same."""
    state = seed
    while True:
        state = (state * 1103515245 + 12345) % 2 ** 31
        yield state >> 7


def chance_words(seed, letters, length, many):
    """Words of one length that look like chance."""
    row = numbers(seed)
    return [tuple(next(row) % letters for _ in range(length)) for _ in range(many)]


def made_of_tuples(thing):
    """Whether a result holds nothing but tuples, whole numbers, strings and None."""
    if isinstance(thing, tuple):
        return all(made_of_tuples(part) for part in thing)
    return thing is None or isinstance(thing, (int, str))


def caught(call, *arguments, **named):
    """The error that a call raises: the name of its class and its attributes in order."""
    from lostplaces.errors import PlaceError
    try:
        call(*arguments, **named)
    except PlaceError as error:
        return (error.__class__.__name__,) + tuple(vars(error).values())
    return None


NO_SEQUENCES = (None, 7, "01", {0: 1}, {0, 1}, b"01", True)
NO_NUMBERS = (None, "1", 1.0, True, False, (1,), [])
