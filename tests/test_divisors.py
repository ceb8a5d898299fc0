"""lostplaces.divisors: [4.1], [4.2]."""

import math
import unittest

from lostplaces.divisors import common_divisor, divisors_of, mu_of, odd_part, phi_of, ram_of
from tests.helper import NO_NUMBERS, caught, made_of_tuples

ONE_NUMBER = (divisors_of, phi_of, mu_of, odd_part)


def plain_divisors(number):
    """All divisors of a number."""
    return [part for part in range(1, number + 1) if number % part == 0]


def plain_mu(number):
    """The value that makes the sum over all divisors 0 for each number above 1."""
    values = {}
    for part in plain_divisors(number):
        values[part] = (part == 1) - sum(values[low] for low in values if part % low == 0)
    return values[number]


class Divisors(unittest.TestCase):
    """[4.1]."""

    def test_against_plain_counts(self):
        for number in list(range(1, 130)) + [1024, 1155, 1849, 1999, 2000]:
            self.assertEqual(divisors_of(number), tuple(plain_divisors(number)))
            wanted = sum(math.gcd(low, number) == 1 for low in range(1, number + 1))
            self.assertEqual(phi_of(number), wanted)
            self.assertEqual(mu_of(number), plain_mu(number))
            self.assertEqual(odd_part(number), [part for part in plain_divisors(number) if part % 2][-1])
        self.assertTrue(made_of_tuples(divisors_of(12)))

    def test_told_values(self):
        self.assertEqual([mu_of(number) for number in range(1, 13)],
                         [1, -1, -1, 0, -1, 1, -1, 0, 0, 1, -1, 0])
        self.assertEqual(divisors_of(1), (1,))
        self.assertEqual((phi_of(1), mu_of(1), odd_part(1)), (1, 1, 1))
        self.assertEqual((phi_of(2000), mu_of(2000), odd_part(2000)), (800, 0, 125))

    def test_common_divisor(self):
        for one in range(40):
            for other in range(40):
                common = [part for part in range(1, 80) if one % part == 0 and other % part == 0]
                wanted = common[-1] if one or other else 0
                self.assertEqual(common_divisor(one, other), wanted)
        self.assertEqual(common_divisor(0, 0), 0)
        self.assertEqual(common_divisor(0, 2000), 2000)
        self.assertEqual(common_divisor(2000, 0), 2000)
        self.assertEqual(common_divisor(2000, 1998), 2)

    def test_errors(self):
        for call in ONE_NUMBER:
            for bad in (0, -1, 2001) + NO_NUMBERS:
                self.assertEqual(caught(call, bad), ("BadNumber",))
            self.assertIsNone(caught(call, 2000))
        for bad in (-1, 2001) + NO_NUMBERS:
            self.assertEqual(caught(common_divisor, bad, 1), ("BadNumber",))
            self.assertEqual(caught(common_divisor, 1, bad), ("BadNumber",))


class Ram(unittest.TestCase):
    """[4.2]."""

    def test_both_ways_to_tell_it(self):
        for number in list(range(1, 61)) + [1155, 1999, 2000]:
            for rest in list(range(70)) + [1155, 2000]:
                wanted = sum(part * plain_mu(number // part) for part in plain_divisors(number)
                             if rest % part == 0)
                self.assertEqual(ram_of(number, rest), wanted)
                part = number // math.gcd(number, rest)
                self.assertEqual(phi_of(number) * mu_of(part), wanted * phi_of(part))

    def test_the_sum_over_all_divisors(self):
        for number in range(1, 60):
            for rest in range(60):
                total = sum(ram_of(part, rest) for part in divisors_of(number))
                self.assertEqual(total, number if rest % number == 0 else 0)

    def test_values(self):
        self.assertEqual((ram_of(1, 0), ram_of(5, 0), ram_of(5, 1), ram_of(6, 2)), (1, 4, -1, -1))
        self.assertEqual(ram_of(2000, 0), 800)
        self.assertEqual(ram_of(2000, 2000), 800)
        self.assertEqual(ram_of(4, 1), 0)

    def test_errors(self):
        for bad in (0, -1, 2001) + NO_NUMBERS:
            for rest in (None, 0, 1):
                self.assertEqual(caught(ram_of, bad, rest), ("BadNumber",))
        for bad in (-1, 2001) + NO_NUMBERS:
            self.assertEqual(caught(ram_of, 1, bad), ("BadNumber",))


if __name__ == "__main__":
    unittest.main()
