"""Order books: orders told by their rise total, which bear one member lost."""

from math import factorial

from lostplaces.errors import BadModulus, BadRest, NoMember, NoNumber, NotPerfect, TooMany
from lostplaces.orders import (
    MOST_MEMBERS, check_row, lacking_member, order_total, row_without, total_spread,
)
from lostplaces.words import check_number, is_whole

MOST_MODULUS = 10000
MOST_LISTED = 7


class OrderBook:
    """All orders of one length whose rise total leaves one rest by the modulus."""

    def __init__(self, length, modulus, rest):
        check_number(length, 1, MOST_MEMBERS)
        if not is_whole(modulus, length, MOST_MODULUS):
            raise BadModulus()
        if not is_whole(rest, 0, modulus - 1):
            raise BadRest()
        self.length = length
        self.modulus = modulus
        self.rest = rest

    def __eq__(self, other):
        return (
            isinstance(other, OrderBook) and self.length == other.length
            and self.modulus == other.modulus and self.rest == other.rest
        )

    def has(self, row):
        """Tell whether an order of the book's length is one of its orders."""
        row = check_row(self.length, row, self.length)
        return order_total(row) % self.modulus == self.rest


def order_members(book):
    """Yield the orders of the book, ascending."""
    if book.length > MOST_LISTED:
        raise TooMany(book.length)
    for order in _all_orders(book.length):
        if book.has(order):
            yield order


def _all_orders(length):
    """The list of all orders of this length, ascending."""
    orders = [()]
    for _ in range(length):
        orders = [
            order + (member,) for order in orders
            for member in range(1, length + 1) if member not in order
        ]
    return orders


def order_size(book):
    """Return how many orders the book has, without going through them."""
    return sum(total_spread(book.length)[book.rest::book.modulus])


def read_row(book, row):
    """Return the one order of the book that loses one member to the short row, or None."""
    row = check_row(book.length, row, book.length - 1)
    member = lacking_member(book.length, row)
    for at in range(book.length):
        order = row[:at] + (member,) + row[at:]
        if book.has(order):
            return order
    return None


def near_orders(book, order):
    """Return the orders of the book that are at most one move away from the order, ascending."""
    order = check_row(book.length, order, book.length)
    # A move takes one member out and puts it in again, and each row without
    # it comes of one order of the book at most.
    found = set()
    for member in order:
        near = read_row(book, row_without(order, member))
        if near is not None:
            found.add(near)
    return tuple(sorted(found))


def order_for(book, number):
    """Return the order of the book that leaves the order of this number without its greatest."""
    _check_perfect(book)
    if not is_whole(number, 0, factorial(book.length - 1) - 1):
        raise NoNumber()
    return read_row(book, _order_at(book.length - 1, number))


def _check_perfect(book):
    """Raise NotPerfect() unless each short row is read by the book."""
    if book.modulus != book.length:
        raise NotPerfect()


def _order_at(length, number):
    """The order with this number, from 0, among all orders of this length, ascending."""
    left = list(range(1, length + 1))
    order = []
    for behind in range(length - 1, -1, -1):
        # As many orders as this begin with each of the members that are left.
        share = factorial(behind)
        order.append(left.pop(number // share))
        number = number % share
    return tuple(order)


def number_for(book, order):
    """Return the number of the order that this order of the book leaves without its greatest."""
    order = check_row(book.length, order, book.length)
    _check_perfect(book)
    if not book.has(order):
        raise NoMember()
    left = row_without(order, book.length)
    number = 0
    for at, member in enumerate(left):
        lesser = [other for other in left[at + 1:] if other < member]
        number += len(lesser) * factorial(len(left) - at - 1)
    return number
