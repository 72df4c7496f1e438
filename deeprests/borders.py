"""Borders: by how high powers of the prime the roots of a polynomial can be divided, as sides (run, rise)."""

from deeprests.errors import NoDepth
from deeprests.primes import depth_of


def rises_more(side, ahead):
    # Runs are from 1 on, so the products stand to each other as rise by run does.
    return side[1] * ahead[0] > ahead[1] * side[0]


def add_side(sides, side):
    # A side that doesn't rise more than the one ahead leaves the mark between them on the
    # border's straight line or above it: the two are one side then, and it may be so again.
    whole = side
    while len(sides) > 0 and not rises_more(whole, sides[-1]):
        ahead = sides.pop()
        whole = (ahead[0] + whole[0], ahead[1] + whole[1])
    sides.append(whole)


def border_of(p, f):
    marks = [(place, depth_of(p, number)) for place, number in enumerate(f) if number != 0]
    if len(marks) == 0:
        raise NoDepth("there is no mark over noughts alone")
    sides = []
    last = marks[0]
    for mark in marks[1:]:
        add_side(sides, (mark[0] - last[0], mark[1] - last[1]))
        last = mark
    return sides


def borders_joined(one, other):
    joined = []
    place = 0
    for side in one:
        while place < len(other) and rises_more(side, other[place]):
            add_side(joined, other[place])
            place += 1
        add_side(joined, side)
    for side in other[place:]:
        add_side(joined, side)
    return joined
