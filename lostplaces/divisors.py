"""Divisors of whole numbers, and the sums over them by which sizes are told."""

from math import gcd

from lostplaces.words import check_number

MOST_DIVIDED = 2000


def divisors_of(number):
    """Return all divisors of the number, ascending."""
    check_number(number, 1, MOST_DIVIDED)
    return tuple([part for part in range(1, number + 1) if number % part == 0])


def phi_of(number):
    """Return how many of the numbers 1 to this one share no divisor with it but 1."""
    check_number(number, 1, MOST_DIVIDED)
    phi = 1
    ahead = 1
    for prime in _primes_of(number):
        phi = phi * (prime if prime == ahead else prime - 1)
        ahead = prime
    return phi


def _primes_of(number):
    """The primes whose product is the number, ascending."""
    primes = []
    prime = 2
    while number > 1:
        if number % prime == 0:
            primes.append(prime)
            number = number // prime
        else:
            prime += 1
    return primes


def mu_of(number):
    """Return 0 if the square of a prime divides the number, else 1 or -1 by its primes."""
    check_number(number, 1, MOST_DIVIDED)
    primes = _primes_of(number)
    if len(set(primes)) < len(primes):
        return 0
    return 1 if len(primes) % 2 == 0 else -1


def common_divisor(one, other):
    """Return the greatest common divisor; with 0 it is the other number."""
    check_number(one, 0, MOST_DIVIDED)
    check_number(other, 0, MOST_DIVIDED)
    return gcd(one, other)


def odd_part(number):
    """Return the greatest odd divisor of the number."""
    check_number(number, 1, MOST_DIVIDED)
    while number % 2 == 0:
        number = number // 2
    return number


def ram_of(number, rest):
    """Return the sum of e * mu(number / e) over all e that divide the number and the rest."""
    check_number(number, 1, MOST_DIVIDED)
    check_number(rest, 0, MOST_DIVIDED)
    part = number // gcd(number, rest)
    return phi_of(number) * mu_of(part) // phi_of(part)
