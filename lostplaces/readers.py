"""Reading words that lost a letter, or got one, by a sum book and without a search."""

from lostplaces.errors import BadNumber, NotOneOff
from lostplaces.sums import lifted_word, lowered_word, place_sum
from lostplaces.words import check_word

MOST_MEMBER = 200
MOST_READ = 201


def read_lost(book, word):
    """Return the one member above a word of one letter fewer, or None."""
    word = _check_letters_of(word, book.length - 1)
    amount = (book.rest - place_sum(word)) % book.modulus
    return lifted_word(word, amount) if amount <= book.length else None


def read_put(book, word):
    """Return the one member below a word of one letter more, or None."""
    word = _check_letters_of(word, book.length + 1)
    amount = (place_sum(word) - book.rest) % book.modulus
    if amount > book.length + 1:
        return None
    member = lowered_word(word, amount)
    # By the modulus of a full book the amounts 0 and n + 1 are one.
    if member is None and amount == 0 and book.is_full:
        return lowered_word(word, book.length + 1)
    return member


def read_any(book, word):
    """Return the member that the word is read as, by its number of letters, or None."""
    word = check_word(2, word, MOST_READ)
    if len(word) == book.length - 1:
        return read_lost(book, word)
    if len(word) == book.length + 1:
        return read_put(book, word)
    if len(word) != book.length:
        raise NotOneOff()
    return word if book.has(word) else None


def _check_letters_of(word, length, most=MOST_READ):
    """Return the word as a tuple, or raise BadWord, then NotOneOff() by its length."""
    word = check_word(2, word, most)
    if len(word) != length:
        raise NotOneOff()
    return word


def unread_word(book):
    """Return a word of one letter fewer with no member above it, or None."""
    if book.length == 0:
        raise BadNumber()
    greatest = book.length * (book.length - 1) // 2
    if book.is_full:
        return None
    if book.rest > book.length:
        return _word_of_sum(book.length - 1, 0)
    if book.rest + 1 <= greatest:
        return _word_of_sum(book.length - 1, book.rest + 1)
    return None


def _word_of_sum(length, total):
    """A word of this length and place sum: the greatest places that fit are taken first."""
    places = []
    for place in range(length, 0, -1):
        if place <= total:
            places.append(place)
            total -= place
    return tuple([1 if place in places else 0 for place in range(1, length + 1)])


def place_of_loss(book, word):
    """Return the first and the last place of the member's run that lost the letter, or None."""
    member = read_lost(book, word)
    if member is None:
        return None
    return _run_between(member, word)


def place_of_put(book, word):
    """Return the first and the last place of the word's run that got the letter, or None."""
    member = read_put(book, word)
    if member is None:
        return None
    return _run_between(word, member)


def _run_between(long, short):
    """The places of the run of the longer word that has one letter less in the shorter one."""
    # The words agree up to the end of that run, and no further.
    last = 1
    while last <= len(short) and long[last - 1] == short[last - 1]:
        last += 1
    first = last
    while first > 1 and long[first - 2] == long[last - 1]:
        first -= 1
    return (first, last)


def near_members(book, word):
    """Return the members from which the word comes by one letter lost and one put in."""
    word = _check_letters_of(word, book.length, MOST_MEMBER)
    found = set()
    for at, letter in enumerate(word):
        # One loss of each run gives all words below.
        if at == 0 or letter != word[at - 1]:
            member = read_lost(book, word[:at] + word[at + 1:])
            if member is not None:
                found.add(member)
    return tuple(sorted(found))
