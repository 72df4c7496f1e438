"""Parts: a polynomial parted at a depth as it parts by the prime alone."""

from deeprests.errors import NoParts
from deeprests.polynomials import degree_of, poly_product
from deeprests.primes import inverse_of


def rests_of(p, f):
    return [number % p for number in f]


def poly_difference(f, g):
    longest = max(len(f), len(g))
    padded = list(f) + [0] * (longest - len(f))
    for place, number in enumerate(g):
        padded[place] -= number
    return padded


def divided_by_prime(p, f, g):
    # The quotient and the rest of f by g, all by the prime alone; g holds rests already, not noughts alone.
    degree = degree_of(g)
    inverse = inverse_of(p, 1, g[degree])
    quotient = [0] * (len(f) - degree)
    rest = rests_of(p, f)
    place = len(f) - 1 - degree
    while place >= 0:
        times = rest[place + degree] * inverse % p
        quotient[place] = times
        for step in range(degree + 1):
            rest[place + step] = (rest[place + step] - times * g[step]) % p
        place -= 1
    return (quotient, rest[:degree])


def inverse_beside(p, h, g):
    # In each row (r, t) of Euclid's way g divides r - h t by the prime alone, so a row with a number
    # other than 0 as its r tells the inverse of h; there is no such row where both have a common divisor.
    ahead = (g, [0])
    row = (divided_by_prime(p, h, g)[1], [1])
    while degree_of(row[0]) > 0:
        divided = divided_by_prime(p, ahead[0], row[0])
        following = (divided[1], rests_of(p, poly_difference(ahead[1], poly_product(divided[0], row[1]))))
        ahead = row
        row = following
    if degree_of(row[0]) == -1:
        return None
    return rests_of(p, poly_product(row[1], [inverse_of(p, 1, row[0][0])]))


def may_part(p, N, f, g, h):
    if N < 1 or len(g) < 2 or len(h) < 2 or len(f) != len(g) + len(h) - 1:
        return False
    if f[-1] != 1 or g[-1] != 1 or h[-1] != 1:
        return False
    return degree_of(rests_of(p, poly_difference(f, poly_product(g, h)))) == -1


def raised(f, power, more):
    return [number + power * step for number, step in zip(f, more)]


def parts_at(p, N, f, g, h):
    if not may_part(p, N, f, g, h):
        raise NoParts("the polynomial does not part so by the prime")
    g_rests = rests_of(p, g)
    h_rests = rests_of(p, h)
    inverse = inverse_beside(p, h_rests, g_rests)
    if inverse is None:
        raise NoParts("the two have a common divisor by the prime")
    G = list(g_rests)
    H = list(h_rests)
    power = p
    for turn in range(1, N):
        # With u and v times the power added, the product grows by u h + v g times it, and what is deeper:
        # that must be what is missing. u is its own rest by g, and then g divides what is left for v.
        missing = rests_of(p, [number // power for number in poly_difference(f, poly_product(G, H))])
        u = divided_by_prime(p, poly_product(missing, inverse), g_rests)[1]
        v = divided_by_prime(p, poly_difference(missing, poly_product(u, h_rests)), g_rests)[0]
        # Nothing is added at the last number: it stays 1.
        G = raised(G, power, u + [0])
        H = raised(H, power, v)
        power = power * p
    return (G, H)
