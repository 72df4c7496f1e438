"""The one small fraction that a ball holds."""

from deeprests.errors import NoSmall
from deeprests.primes import power_of


def first_small_row(power, a, m):
    # In each row (t, b) of Euclid's way the power divides t - a b. A small fraction (t, b) with
    # t = a b - c power has c / b so near to a / power, for twice m m is below the power, that
    # it is a multiple of one of the rows; and no row behind the first with t up to m can be
    # small beside that one.
    ahead = (power, 0)
    row = (a % power, 1)
    while row[0] > m:
        times = ahead[0] // row[0]
        following = (ahead[0] - times * row[0], ahead[1] - times * row[1])
        ahead = row
        row = following
    return row


def small_fraction(p, one, m):
    power = power_of(p, one[1])
    if m < 1 or 2 * m * m >= power:
        raise NoSmall("there may be several fractions as small as this")
    row = first_small_row(power, one[0], m)
    if row[1] < 0:
        row = (-row[0], -row[1])
    # A row has no common divisor but powers of p, so none where p does not divide b.
    if row[1] > m or row[1] % p == 0:
        return None
    return row
