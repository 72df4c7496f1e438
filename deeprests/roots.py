"""Roots of polynomials: the one of a single rest, and all endless ones, as deep as one likes."""

from deeprests.balls import GREATEST_DEPTH
from deeprests.errors import NoSingle, TooDeep
from deeprests.polynomials import rests_by_prime, seen_from, slope_of, without_content, worth_at
from deeprests.primes import depth_of, inverse_of, power_of


def single_depth(p, f, a):
    rise = worth_at(slope_of(f), a)
    if rise == 0:
        return None
    d = depth_of(p, rise)
    if worth_at(f, a) % power_of(p, 2 * d + 1) != 0:
        return None
    return d


def root_of(p, f, a, N):
    d = single_depth(p, f, a)
    if d is None:
        raise NoSingle("the rest is not single")
    # The root has the rest of a at the depth d + 1, so up to there it is known already.
    if N <= d + 1:
        return a % power_of(p, N)
    return deepened(p, f, a, d, N)


def deepened(p, f, a, d, N):
    power = power_of(p, d + 1)
    worth_power = power_of(p, 2 * d + 1)
    root = a % power
    # The slope's worth keeps its rest at the depth d + 1 while the root grows, so one inverse does for all.
    inverse = inverse_of(p, 1, worth_at(slope_of(f), a) // power_of(p, d))
    for turn in range(d + 1, N):
        # A step of t times the power adds t times the slope's worth times it to the worth, and what is deeper.
        t = -(worth_at(f, root) // worth_power) * inverse % p
        root = root + t * power
        power = power * p
        worth_power = worth_power * p
    return root


def roots_within(p, a, e, seen, N):
    # Sixty knots led here: the search ends, whether or not there are roots.
    if e == GREATEST_DEPTH:
        raise TooDeep("knots alone lead to the greatest depth")
    freed = without_content(p, seen)
    slope = slope_of(freed)
    power = power_of(p, e)
    roots = []
    for r in rests_by_prime(p, freed):
        if worth_at(slope, r) % p == 0:
            roots.extend(roots_within(p, a + r * power, e + 1, seen_from(p, freed, r, 1), N))
        else:
            root = a + power * root_of(p, freed, r, max(N - e, 0))
            roots.append(root % power_of(p, N))
    return roots


def endless_roots(p, f, N):
    return sorted(roots_within(p, 0, 0, f, N))
