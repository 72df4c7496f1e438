"""All whole numbers at which a power of the prime divides a polynomial's worth, as few balls."""

from deeprests.polynomials import content_of, rests_by_prime, seen_from, without_content, worth_at
from deeprests.primes import power_of


def divides_every_worth(p, f, N):
    # The worths at as many places in a row as there are numbers give all others by sums and
    # differences alone. The content would not do: 2 divides every worth of x x - x.
    power = power_of(p, N)
    return all([worth_at(f, y) % power == 0 for y in range(len(f))])


def solving_balls_within(p, a, e, seen, N):
    # seen is the polynomial seen from a at the depth e, but for powers of p that were taken
    # out of it and are gone from N too. Balls are asked from the greatest one down, so the
    # first one in which all numbers solve is as great as can be.
    if divides_every_worth(p, seen, N):
        return [(a, e)]
    left = N - content_of(p, seen)
    freed = without_content(p, seen)
    power = power_of(p, e)
    balls = []
    for r in rests_by_prime(p, freed):
        balls.extend(solving_balls_within(p, a + r * power, e + 1, seen_from(p, freed, r, 1), left))
    return balls


def solving_balls(p, f, N):
    return sorted(solving_balls_within(p, 0, 0, f, N))


def solving_rests(p, f, N):
    return sum([power_of(p, N - ball[1]) for ball in solving_balls(p, f, N)])
