"""What the tests share: plain searches over all words, and how to expect an error."""

from itertools import combinations, product


def every_word(letters, length):
    """All words of one length, ascending."""
    return [tuple(word) for word in product(range(letters), repeat=length)]


def every_word_up_to(letters, most):
    """All words of at most so many letters."""
    return [word for length in range(most + 1) for word in every_word(letters, length)]


def plain_below(word, lost):
    """All words below the word by so many letters lost."""
    if lost > len(word):
        return set()
    return set(combinations(word, len(word) - lost))


def plain_above(letters, word, put):
    """All words above the word by so many letters put in, one letter after the other."""
    words = {tuple(word)}
    for _ in range(put):
        words = {
            old[:at] + (letter,) + old[at:]
            for old in words for at in range(len(old) + 1) for letter in range(letters)
        }
    return words


def plain_is_below(short, long):
    """Whether short comes of long by letters lost."""
    rest = iter(long)
    return all(letter in rest for letter in short)


def plain_common(one, other):
    """The length of the longest common words, by trying all words below one."""
    for lost in range(len(one) + 1):
        if any(plain_is_below(word, other) for word in plain_below(one, lost)):
            return len(one) - lost
    raise AssertionError("the empty word is below every word")


def plain_sum(word):
    """The place sum by its definition."""
    return sum(place for place, letter in enumerate(word, 1) if letter == 1)


def table_common(one, other):
    """The same length by the usual table, for longer words."""
    row = [0] * (len(other) + 1)
    for letter in one:
        fresh = [0]
        for at, sign in enumerate(other):
            fresh.append(row[at] + 1 if letter == sign else max(row[at + 1], fresh[at]))
        row = fresh
    return row[-1]


def numbers(seed):
    """An endless row of numbers that look like chance, always the same."""
    state = seed
    while True:
        state = (state * 1103515245 + 12345) % 2 ** 31
        yield state >> 16


def chance_words(seed, letters, length, many):
    """Words of one length that look like chance."""
    row = numbers(seed)
    return [tuple(next(row) % letters for _ in range(length)) for _ in range(many)]


def made_of_tuples(thing):
    """Whether a result holds nothing but tuples, whole numbers, strings and None."""
    if isinstance(thing, tuple):
        return all(made_of_tuples(part) for part in thing)
    return thing is None or isinstance(thing, (int, str))


def caught(call, *arguments, **named):
    """The error that a call raises: the name of its class and its attributes in order."""
    from lostplaces.errors import PlaceError
    try:
        call(*arguments, **named)
    except PlaceError as error:
        return (error.__class__.__name__,) + tuple(vars(error).values())
    return None


NO_SEQUENCES = (None, 7, "01", {0: 1}, {0, 1}, b"01", True)
NO_NUMBERS = (None, "1", 1.0, True, False, (1,), [])


def every_book(letters, length):
    """All books of these letters and this length: few only for very small ones."""
    from lostplaces.books import Book
    words = every_word(letters, length)
    return [
        Book(letters, length, [word for at, word in enumerate(words) if number >> at & 1])
        for number in range(2 ** len(words))
    ]


def some_books(seed=1):
    """Small books of several letters and lengths, with none, one and more members."""
    from lostplaces.books import Book
    books = every_book(2, 2) + every_book(2, 0) + every_book(3, 1)
    for letters, length, many in ((2, 3, 3), (2, 4, 4), (2, 5, 5), (3, 3, 4), (4, 3, 3), (2, 6, 3)):
        for turn in range(6):
            words = chance_words(seed * 100 + turn * 7 + length, letters, length, many)
            books.append(Book(letters, length, words))
    return books


def plain_wrong(letters, word, wrong):
    """All words that differ from the word at no more than so many places."""
    return {
        other for other in every_word(letters, len(word))
        if sum(x != y for x, y in zip(word, other)) <= wrong
    }


def plain_mixed(letters, word, mix):
    """All words that come of the word by letters lost, then made wrong, then put in."""
    lost, put, wrong = mix
    shorter = plain_below(word, lost)
    changed = {other for short in shorter for other in plain_wrong(letters, short, wrong)}
    return set().union(*[plain_above(letters, other, put) for other in changed])
