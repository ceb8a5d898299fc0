"""How many members many books have, without looking at the members."""

from lostplaces.divisors import common_divisor, divisors_of, ram_of
from lostplaces.errors import BadRest, BadTotal
from lostplaces.words import check_letters, check_number, is_whole, power_of

MOST_LENGTH = 60


def many_size_of(letters, length, rest, total):
    """Return how many members the many book of this rest and total has."""
    check_letters(letters)
    check_number(length, 1, MOST_LENGTH)
    if not is_whole(rest, 0, length - 1):
        raise BadRest()
    if not is_whole(total, 0, letters - 1):
        raise BadTotal()
    return _size(letters, length, rest, total)


def _size(letters, length, rest, total):
    """The size by its sum over divisors, without checks."""
    lacking = (length * (length - 1) // 2 - rest) % length
    size = 0
    for part in divisors_of(length):
        shared = common_divisor(part, letters)
        if total % shared == 0:
            size += ram_of(part, lacking) * shared * power_of(letters, length // part)
    return size // (letters * length)


def size_rows(letters, length):
    """Return for each rest the tuple of the sizes for all totals."""
    check_letters(letters)
    check_number(length, 1, MOST_LENGTH)
    return tuple([
        tuple([_size(letters, length, rest, total) for total in range(letters)])
        for rest in range(length)
    ])
