"""Primes, and the powers of a prime that divide whole numbers."""

from deeprests.errors import NoDepth, NoInverse


def is_prime(thing):
    # Truths are ints to Python, but below 2, so they need no asking for.
    if not isinstance(thing, int) or thing < 2:
        return False
    divisor = 2
    while divisor * divisor <= thing:
        if thing % divisor == 0:
            return False
        divisor += 1
    return True


def depth_of(p, x):
    if x == 0:
        raise NoDepth("every power divides 0")
    depth = 0
    left = x
    while left % p == 0:
        left = left // p
        depth += 1
    return depth


def unit_of(p, x):
    return x // power_of(p, depth_of(p, x))


def power_of(p, e):
    power = 1
    for turn in range(e):
        power = power * p
    return power


def inverse_by_prime(p, x):
    fitting = [y for y in range(1, p) if x * y % p == 1]
    return fitting[0]


def inverse_of(p, e, x):
    if e == 0:
        return 0
    if x % p == 0:
        raise NoInverse("the prime divides the number")
    power = power_of(p, e)
    y = inverse_by_prime(p, x)
    reached = 1
    # With x y = 1 + d the next y gives 1 - d d, so the depth reached doubles each time.
    while reached < e:
        y = y * (2 - x * y) % power
        reached = reached * 2
    return y
