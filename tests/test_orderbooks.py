"""lostplaces.orderbooks: [7.7] to [7.10]."""

import math
import unittest

from lostplaces.orderbooks import (
    OrderBook, near_orders, number_for, order_for, order_members, order_size, read_row,
)
from lostplaces.orders import total_spread
from tests.helper import NO_NUMBERS, NO_SEQUENCES, caught, made_of_tuples, numbers
from tests.test_orders import (
    LONG, SHUFFLED, every_order, every_short_row, plain_moves, plain_places,
)


def plain_members(length, modulus, rest):
    """The orders of a book by its definition."""
    return [order for order in every_order(length) if sum(plain_places(order)) % modulus == rest]


def some_moduli(length):
    """Moduli for a small length, among them both bounds."""
    return (length, length + 1, length + 3, 2 * length + 5, 10000)


def rests_of(modulus):
    """All rests of a small modulus, some of a great one."""
    return range(modulus) if modulus < 100 else (0, 1, 5, modulus - 1)


def some_books(most):
    """Order books of the lengths up to the most, of several moduli."""
    return [
        OrderBook(length, modulus, rest) for length in range(1, most + 1)
        for modulus in some_moduli(length) for rest in rests_of(modulus)
    ]


def long_orders(many):
    """Orders of 40 members that look like chance."""
    row = numbers(11)
    orders = []
    for _ in range(many):
        left = list(LONG)
        orders.append(tuple(left.pop(next(row) % len(left)) for _ in LONG))
    return orders


class Books(unittest.TestCase):
    """[7.7]."""

    def test_attributes_and_likeness(self):
        book = OrderBook(3, 4, 2)
        self.assertEqual((book.length, book.modulus, book.rest), (3, 4, 2))
        self.assertEqual(book, OrderBook(3, 4, 2))
        for other in (OrderBook(4, 4, 2), OrderBook(3, 5, 2), OrderBook(3, 4, 1), (3, 4, 2), None):
            self.assertNotEqual(book, other)

    def test_bounds(self):
        for length, modulus, rest in ((1, 1, 0), (40, 40, 39), (40, 10000, 9999), (1, 10000, 0)):
            self.assertEqual(OrderBook(length, modulus, rest).rest, rest)

    def test_errors_in_order(self):
        for bad in (0, -1, 41) + NO_NUMBERS:
            self.assertEqual(caught(OrderBook, bad, None, None), ("BadNumber",))
        for bad in (0, 4, 10001) + NO_NUMBERS:
            self.assertEqual(caught(OrderBook, 5, bad, None), ("BadModulus",))
        for bad in (-1, 6) + NO_NUMBERS:
            self.assertEqual(caught(OrderBook, 5, 6, bad), ("BadRest",))

    def test_has_and_members_and_sizes(self):
        for book in some_books(5):
            wanted = plain_members(book.length, book.modulus, book.rest)
            self.assertEqual(list(order_members(book)), wanted)
            self.assertEqual(order_size(book), len(wanted))
            for order in every_order(book.length):
                self.assertIs(book.has(list(order)), order in wanted)

    def test_has_errors(self):
        book = OrderBook(3, 3, 0)
        for thing in NO_SEQUENCES + ([], [1, 2], [1, 2, 3, 4]):
            self.assertEqual(caught(book.has, thing), ("BadRow", -1))
        for bad in (0, 4, 3) + NO_NUMBERS:
            self.assertEqual(caught(book.has, [3, bad, bad]), ("BadRow", 1))

    def test_members_of_7_and_no_longer(self):
        book = OrderBook(7, 7, 3)
        members = list(order_members(book))
        self.assertEqual(len(members), math.factorial(6))
        self.assertEqual(members, plain_members(7, 7, 3))
        self.assertTrue(made_of_tuples(tuple(members)))
        for length in (8, 40):
            book = OrderBook(length, 40, 0)
            self.assertEqual(caught(list, order_members(book)), ("TooMany", length))

    def test_sizes_without_going_through(self):
        for length in (1, 2, 9, 40):
            for rest in range(length):
                self.assertEqual(order_size(OrderBook(length, length, rest)),
                                 math.factorial(length - 1))
        sizes = [order_size(OrderBook(40, 41, rest)) for rest in range(41)]
        self.assertEqual(sum(sizes), math.factorial(40))
        for rest, size in ((0, 1), (1, 39), (390, total_spread(40)[390]), (780, 1), (781, 0)):
            self.assertEqual(order_size(OrderBook(40, 10000, rest)), size)


class Reading(unittest.TestCase):
    """[7.8]."""

    def test_example(self):
        book = OrderBook(3, 3, 0)
        self.assertEqual(list(order_members(book)), [(1, 2, 3), (3, 2, 1)])
        self.assertEqual(read_row(book, [3, 1]), (3, 2, 1))

    def test_against_all_members(self):
        for book in some_books(5):
            members = plain_members(book.length, book.modulus, book.rest)
            above = {}
            for order in members:
                for at in range(len(order)):
                    above.setdefault(order[:at] + order[at + 1:], []).append(order)
            for row in every_short_row(book.length):
                found = above.get(row, [])
                self.assertLessEqual(len(found), 1)
                self.assertEqual([read_row(book, list(row))], found or [None])
                if book.modulus == book.length:
                    self.assertEqual(len(found), 1)

    def test_just_so_many_rests_read(self):
        for length, modulus in ((1, 3), (3, 5), (4, 9)):
            for row in every_short_row(length):
                reads = [read_row(OrderBook(length, modulus, rest), row) for rest in range(modulus)]
                self.assertEqual(sum(order is not None for order in reads), length)

    def test_long_rows(self):
        for order in long_orders(5) + [LONG, LONG[::-1], SHUFFLED]:
            total = sum(plain_places(order))
            for modulus in (40, 777):
                book = OrderBook(40, modulus, total % modulus)
                self.assertTrue(book.has(order))
                for at in range(40):
                    self.assertEqual(read_row(book, list(order[:at] + order[at + 1:])), order)

    def test_errors(self):
        book = OrderBook(3, 3, 0)
        for thing in NO_SEQUENCES + ([], [1], [1, 2, 3]):
            self.assertEqual(caught(read_row, book, thing), ("BadRow", -1))
        for bad in (0, 4, 3) + NO_NUMBERS:
            self.assertEqual(caught(read_row, book, [3, bad]), ("BadRow", 1))


class Near(unittest.TestCase):
    """[7.9]."""

    def test_against_all_moves(self):
        for book in some_books(4) + [OrderBook(5, 5, rest) for rest in range(5)]:
            members = plain_members(book.length, book.modulus, book.rest)
            for order in every_order(book.length)[::2]:
                moves = plain_moves(order)
                wanted = tuple(other for other in members if moves[other] <= 1)
                self.assertEqual(near_orders(book, list(order)), wanted)
                if order in members:
                    self.assertEqual(wanted, (order,))
                elif book.modulus == book.length:
                    self.assertEqual(counted(order, wanted), book.length)

    def test_long(self):
        for order in long_orders(3) + [SHUFFLED]:
            total = sum(plain_places(order))
            self.assertEqual(near_orders(OrderBook(40, 40, total % 40), order), (order,))
            near = near_orders(OrderBook(40, 40, (total + 7) % 40), order)
            self.assertEqual(counted(order, near), 40)
            self.assertEqual(near, tuple(sorted(near)))
            self.assertTrue(made_of_tuples(near))

    def test_errors(self):
        book = OrderBook(3, 5, 0)
        for thing in NO_SEQUENCES + ([], [1, 2], [1, 2, 3, 4]):
            self.assertEqual(caught(near_orders, book, thing), ("BadRow", -1))
        for bad in (0, 4, 3) + NO_NUMBERS:
            self.assertEqual(caught(near_orders, book, [3, bad, bad]), ("BadRow", 1))


def counted(order, near):
    """2 for each near order by an exchange of neighbours, 1 for each other one."""
    swaps = [order[:at] + (order[at + 1], order[at]) + order[at + 2:]
             for at in range(len(order) - 1)]
    return sum(2 if other in swaps else 1 for other in near)


class Numbers(unittest.TestCase):
    """[7.10]."""

    def test_against_the_lists(self):
        for length in range(1, 7):
            rows = every_order(length - 1)
            for rest in range(length):
                book = OrderBook(length, length, rest)
                orders = [order_for(book, number) for number in range(len(rows))]
                self.assertEqual(sorted(orders), plain_members(length, length, rest))
                for number, order in enumerate(orders):
                    self.assertEqual(tuple(m for m in order if m != length), rows[number])
                    self.assertEqual(number_for(book, list(order)), number)

    def test_shortest(self):
        book = OrderBook(1, 1, 0)
        self.assertEqual((order_for(book, 0), number_for(book, [1])), ((1,), 0))
        self.assertEqual(caught(order_for, book, 1), ("NoNumber",))

    def test_longest(self):
        most = math.factorial(39) - 1
        row = numbers(5)
        some = [0, 1, most // 2, most - 1, most]
        some += [math.prod(next(row) for _ in range(10)) % (most + 1) for _ in range(10)]
        for rest in (0, 17, 39):
            book = OrderBook(40, 40, rest)
            for number in some:
                order = order_for(book, number)
                self.assertEqual(sum(plain_places(order)) % 40, rest)
                self.assertEqual(number_for(book, order), number)
            self.assertEqual([m for m in order_for(book, 0) if m != 40], list(LONG[:39]))
            self.assertEqual([m for m in order_for(book, most) if m != 40], list(LONG[:39])[::-1])

    def test_order_for_errors(self):
        self.assertEqual(caught(order_for, OrderBook(4, 5, 0), None), ("NotPerfect",))
        book = OrderBook(4, 4, 1)
        for bad in (-1, 6) + NO_NUMBERS:
            self.assertEqual(caught(order_for, book, bad), ("NoNumber",))
        self.assertEqual(caught(order_for, OrderBook(40, 40, 0), math.factorial(39)), ("NoNumber",))

    def test_number_for_errors(self):
        for book in (OrderBook(3, 3, 0), OrderBook(3, 4, 0)):
            for thing in NO_SEQUENCES + ([], [1, 2], [1, 2, 3, 4]):
                self.assertEqual(caught(number_for, book, thing), ("BadRow", -1))
            for bad in (0, 4, 3) + NO_NUMBERS:
                self.assertEqual(caught(number_for, book, [3, bad, bad]), ("BadRow", 1))
        self.assertEqual(caught(number_for, OrderBook(3, 4, 0), [2, 3, 1]), ("NotPerfect",))
        self.assertEqual(caught(number_for, OrderBook(3, 3, 0), [2, 3, 1]), ("NoMember",))


if __name__ == "__main__":
    unittest.main()
