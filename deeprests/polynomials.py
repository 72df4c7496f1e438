"""Polynomials: lists of whole numbers, the one that stands alone first, then that of x, of x x, and so on."""

from deeprests.errors import NoDepth
from deeprests.primes import power_of


def worth_at(f, x):
    worth = 0
    for number in reversed(f):
        worth = worth * x + number
    return worth


def degree_of(f):
    degree = -1
    for place, number in enumerate(f):
        if number != 0:
            degree = place
    return degree


def poly_product(f, g):
    product = [0] * (len(f) + len(g) - 1)
    for place, number in enumerate(f):
        for other_place, other_number in enumerate(g):
            product[place + other_place] += number * other_number
    return product


def slope_of(f):
    if len(f) == 1:
        return [0]
    return [place * f[place] for place in range(1, len(f))]


def seen_from(p, f, a, e):
    place_seen = [a, power_of(p, e)]
    seen = [f[-1]]
    # As worth_at goes, but with a + p^e y where the number x stands there.
    for number in reversed(f[:-1]):
        seen = poly_product(seen, place_seen)
        seen[0] += number
    return seen


def content_of(p, f):
    if degree_of(f) == -1:
        raise NoDepth("every power divides noughts alone")
    content = 0
    left = f
    # All together, for a single number may be far deeper than the others.
    while all([number % p == 0 for number in left]):
        left = [number // p for number in left]
        content += 1
    return content


def without_content(p, f):
    power = power_of(p, content_of(p, f))
    return [number // power for number in f]


def rests_by_prime(p, f):
    # Rests from 0 to p - 1 at which p divides the worth; the numbers' own rests do for that and are small.
    small = [number % p for number in f]
    return [r for r in range(p) if worth_at(small, r) % p == 0]
