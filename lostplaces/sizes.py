"""How many members sum books have, without looking at the members."""

from lostplaces.divisors import divisors_of, ram_of
from lostplaces.errors import BadModulus, BadRest
from lostplaces.words import check_number, choose_of, is_whole

MOST_LENGTH = 200
MOST_TABLED = 60
MOST_MODULUS = 200


def size_of(length, rest):
    """Return how many members the full sum book of this length and rest has."""
    check_number(length, 0, MOST_LENGTH)
    _check_rest(rest, length)
    whole = length + 1
    total = sum([
        ram_of(part, rest) * (1 << (whole // part)) for part in divisors_of(whole) if part % 2 == 1
    ])
    return total // (2 * whole)


def _check_rest(rest, most):
    """Raise BadRest() unless this is a rest up to the greatest one."""
    if not is_whole(rest, 0, most):
        raise BadRest()


def size_by_ones(length, rest, ones):
    """Return how many members of the full sum book have just so many ones."""
    check_number(length, 0, MOST_LENGTH)
    _check_rest(rest, length)
    check_number(ones, 0, length)
    whole = length + 1
    total = 0
    for part in divisors_of(whole):
        term = ram_of(part, rest) * choose_of(whole // part - 1, ones // part)
        total += term if (ones + ones // part) % 2 == 0 else -term
    return total // whole


def size_by_table(length, modulus, rest):
    """Return how many words of this length have a place sum of this rest, for any modulus."""
    check_number(length, 0, MOST_TABLED)
    if not is_whole(modulus, 1, MOST_MODULUS):
        raise BadModulus()
    _check_rest(rest, modulus - 1)
    counts = [1] + [0] * (modulus - 1)
    for place in range(1, length + 1):
        # A 1 at this place moves the count of each rest on by the place.
        counts = [counts[at] + counts[(at - place) % modulus] for at in range(modulus)]
    return counts[rest]


def book_sizes(length):
    """Return the sizes of the full sum books of this length, for the rests 0 to length."""
    check_number(length, 0, MOST_TABLED)
    return tuple([size_of(length, rest) for rest in range(length + 1)])


def extremes_of(length):
    """Return the greatest and the least size of the full sum books of this length."""
    check_number(length, 0, MOST_LENGTH)
    return (size_of(length, 0), size_of(length, min(length, 1)))
