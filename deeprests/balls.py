"""Balls: tuples (a, e) that stand for all whole numbers with the rest a by the power of p and e."""

from deeprests.errors import NoBall, NoInverse
from deeprests.primes import depth_of, inverse_of, power_of

GREATEST_DEPTH = 60


def ball_of(p, x, e):
    return (x % power_of(p, e), e)


def has(p, one, x):
    return (x - one[0]) % power_of(p, one[1]) == 0


def lies_within(p, one, other):
    return one[1] >= other[1] and has(p, other, one[0])


def depth_up_to(p, x, most):
    # Every power divides 0, so only the bound tells its depth here.
    if x == 0:
        return most
    return min(most, depth_of(p, x))


def least_ball(p, numbers):
    if len(numbers) == 0:
        raise NoBall("there are no numbers")
    first = numbers[0]
    depth = min([depth_up_to(p, x - first, GREATEST_DEPTH) for x in numbers])
    return ball_of(p, first, depth)


def common_ball(p, one, other):
    if lies_within(p, one, other):
        return one
    if lies_within(p, other, one):
        return other
    return None


def ball_sum(p, one, other):
    return ball_of(p, one[0] + other[0], min(one[1], other[1], GREATEST_DEPTH))


def ball_difference(p, one, other):
    return ball_of(p, one[0] - other[0], min(one[1], other[1], GREATEST_DEPTH))


def ball_product(p, one, other):
    # (a + p^e s) (b + p^f t) is a b + a p^f t + b p^e s + p^(e+f) s t, and s and t
    # are free, so the product is as deep as the least deep of the last three. No rest
    # counts deeper than its own ball: that takes in the very last one.
    by_other = depth_up_to(p, one[0], one[1]) + other[1]
    by_one = depth_up_to(p, other[0], other[1]) + one[1]
    return ball_of(p, one[0] * other[0], min(by_other, by_one, GREATEST_DEPTH))


def ball_inverse(p, one):
    # The inverse of a number at the depth 0 is told, that of a ball is refused.
    if one[1] == 0:
        raise NoInverse("the ball has the depth 0")
    return ball_of(p, inverse_of(p, one[1], one[0]), one[1])


def ball_quotient(p, one, other):
    return ball_product(p, one, ball_inverse(p, other))
