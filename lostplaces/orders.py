"""Orders of the numbers 1 to n, the places at which they rise, and rows that lack one of them."""

from lostplaces.commons import longest_common
from lostplaces.errors import BadRow
from lostplaces.words import check_number, check_word, is_whole

MOST_MEMBERS = 40


def check_row(length, row, many):
    """Return the row as a tuple, or raise BadRow with the first wrong index."""
    if not isinstance(row, (list, tuple)) or len(row) != many:
        raise BadRow(-1)
    stood = set()
    for index, member in enumerate(row):
        if not is_whole(member, 1, length) or member in stood:
            raise BadRow(index)
        stood.add(member)
    return tuple(row)


def _check_any_row(row):
    """Return a row of at most 40 of the numbers 1 to 40 as a tuple, or raise BadRow."""
    if not isinstance(row, (list, tuple)) or len(row) > MOST_MEMBERS:
        raise BadRow(-1)
    return check_row(MOST_MEMBERS, row, len(row))


def check_order(order):
    """Return an order of as many numbers as it has members as a tuple, or raise BadRow."""
    if not isinstance(order, (list, tuple)) or not is_whole(len(order), 1, MOST_MEMBERS):
        raise BadRow(-1)
    return check_row(len(order), order, len(order))


def order_rises(row):
    """Return the word of one letter fewer that has 1 at each place where the row rises."""
    return _rise_word(_check_any_row(row))


def _rise_word(row):
    """The rise word, without checks."""
    return tuple([1 if row[place] > row[place - 1] else 0 for place in range(1, len(row))])


def order_total(row):
    """Return the sum of the places, from 1, at which the row rises."""
    row = _check_any_row(row)
    return sum([place for place in range(1, len(row)) if row[place] > row[place - 1]])


def turned_order(order):
    """Return the order from its last member to its first."""
    return check_order(order)[::-1]


def contrary_order(order):
    """Return the order with n + 1 - k for each member k."""
    order = check_order(order)
    return tuple([len(order) + 1 - member for member in order])


def _check_short_row(length, row):
    """Return a short row as a tuple, or raise BadNumber() for the length, then BadRow."""
    check_number(length, 1, MOST_MEMBERS)
    return check_row(length, row, length - 1)


def lacking_member(length, row):
    """Return the number from 1 to the length that is not in the short row."""
    return _lacking(length, _check_short_row(length, row))


def _lacking(length, row):
    """The lacking member, without checks."""
    return length * (length + 1) // 2 - sum(row)


def row_without(order, member):
    """Return the order without one member."""
    order = check_order(order)
    check_number(member, 1, len(order))
    return tuple([other for other in order if other != member])


def order_with(length, row, place):
    """Return the order in which the lacking member of the short row stands at the place."""
    row = _check_short_row(length, row)
    check_number(place, 1, length)
    return row[:place - 1] + (_lacking(length, row),) + row[place - 1:]


def places_tried(length, row):
    """Return the rise words of the orders with the lacking member at the places 1, 2, .."""
    row = _check_short_row(length, row)
    member = _lacking(length, row)
    return tuple([_rise_word(row[:at] + (member,) + row[at:]) for at in range(length)])


def moves_apart(one, other):
    """Return the least number of moves that lead from one order to the other."""
    one = check_order(one)
    other = check_row(len(one), other, len(one))
    return len(one) - longest_common(one, other)


def count_by_rises(word):
    """Return the number of orders that have this rise word."""
    word = check_word(2, word, MOST_MEMBERS - 1)
    # Item k counts the beginnings whose last member has just k lesser ones
    # ahead of it; behind a rise the lesser ones grow, behind a fall they do not.
    counts = [1]
    for letter in word:
        if letter == 1:
            counts = [sum(counts[:rank]) for rank in range(len(counts) + 1)]
        else:
            counts = [sum(counts[rank:]) for rank in range(len(counts) + 1)]
    return sum(counts)


def total_spread(length):
    """Return how many orders of this length have the rise total 0, 1, and so on."""
    check_number(length, 1, MOST_MEMBERS)
    spread = [1]
    for width in range(2, length + 1):
        # One factor more: each coefficient is the sum of the last width ones.
        spread = [
            sum(spread[max(0, power - width + 1):power + 1])
            for power in range(len(spread) + width - 1)
        ]
    return tuple(spread)
