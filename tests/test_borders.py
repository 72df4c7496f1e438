import itertools
import unittest
from fractions import Fraction

from deeprests.borders import border_of, borders_joined
from deeprests.errors import NoDepth

PRIMES = (2, 3, 5, 13, 53, 97)


def plain_depth(p, x):
    return max(e for e in range(800) if x % p ** e == 0)


def times(f, g):
    product = [0] * (len(f) + len(g) - 1)
    for i, x in enumerate(f):
        for j, y in enumerate(g):
            product[i + j] += x * y
    return product


def with_depths(p, depths, units=(1, -1)):
    """The polynomial whose numbers have these depths, None standing for a nought."""
    units = itertools.cycle(unit for unit in units if unit % p)
    return [0 if depth is None else next(units) * p ** depth for depth in depths]


def plain_joined(one, other):
    by_slope = {}
    for run, rise in one + other:
        runs, rises = by_slope.get(Fraction(rise, run), (0, 0))
        by_slope[Fraction(rise, run)] = (runs + run, rises + rise)
    return [by_slope[slope] for slope in sorted(by_slope)]


class Border(unittest.TestCase):
    """Point 22."""

    def hold_against_marks(self, p, depths):
        """A line with these four traits is the highest one: no other has them."""
        told = border_of(p, with_depths(p, depths))
        with self.subTest(p=p, depths=depths):
            self.assertIs(type(told), list)
            marks = [(place, depth) for place, depth in enumerate(depths) if depth is not None]
            corners = [marks[0]]
            for side in told:
                self.assertIs(type(side), tuple)
                self.assertEqual([type(part) for part in side], [int, int])
                self.assertGreaterEqual(side[0], 1)
                corners.append((corners[-1][0] + side[0], corners[-1][1] + side[1]))
            self.assertEqual([corner for corner in corners if corner not in marks], [])
            self.assertEqual(corners[-1], marks[-1])
            slopes = [Fraction(rise, run) for run, rise in told]
            self.assertEqual(slopes, sorted(set(slopes)))
            for corner, slope in zip(corners, slopes):
                for place, depth in marks:
                    self.assertGreaterEqual(depth, corner[1] + slope * (place - corner[0]))

    def test_against_all_marks(self):
        for p in (2, 3, 97):
            for length in range(1, 6):
                for depths in itertools.product((None, 0, 1, 2, 4), repeat=length):
                    if any(depth is not None for depth in depths):
                        self.hold_against_marks(p, depths)

    def test_many_marks(self):
        for p in PRIMES:
            for seed in range(60):
                depths = [(seed * 7 + k * k * (seed + 3) + k * 5) % 11 for k in range(13)]
                depths = [None if depth == seed % 11 else depth * (1 + seed % 4) for depth in depths]
                self.hold_against_marks(p, depths)
                self.hold_against_marks(p, depths[::-1])

    def test_written_out(self):
        self.assertEqual(border_of(2, [8, 4, 1]), [(2, -3)])
        self.assertEqual(border_of(2, [8, 2, 1]), [(1, -2), (1, -1)])
        self.assertEqual(border_of(2, [1, 1, 1]), [(2, 0)])
        self.assertEqual(border_of(2, [-2, 0, 1]), [(2, -1)])
        self.assertEqual(border_of(3, [9, 3, 1, 6, 9]), [(2, -2), (2, 2)])
        self.assertEqual(border_of(3, [1, 9, 9, 27]), [(3, 3)])
        self.assertEqual(border_of(3, [27, 1, 3, 81]), [(1, -3), (1, 1), (1, 3)])
        self.assertEqual(border_of(97, [97, 5, 97 ** 3]), [(1, -1), (1, 3)])

    def test_noughts(self):
        for p in PRIMES:
            self.assertEqual(border_of(p, [0, 0, p, 0, 1]), [(2, -1)])
            self.assertEqual(border_of(p, [p, 0, 0, 1, 0, 0]), [(3, -1)])
            self.assertEqual(border_of(p, [0, p * p, 0, 0, 1, 0, p, 0]), [(3, -2), (2, 1)])
            self.assertEqual(border_of(p, [0] * 5 + [1, p] + [0] * 6), [(1, 1)])
            self.assertEqual(border_of(p, [1] + [0] * 11 + [p]), [(12, 1)])

    def test_on_the_border_and_above_it(self):
        for p in PRIMES:
            for between in (2, 3, 50):
                self.assertEqual(border_of(p, with_depths(p, (4, between, 0))), [(2, -4)])
            self.assertEqual(border_of(p, with_depths(p, (4, 1, 0))), [(1, -3), (1, -1)])
            self.assertEqual(border_of(p, with_depths(p, (0, 1, 2, 3, 4, 5, 6))), [(6, 6)])
            self.assertEqual(border_of(p, with_depths(p, (0, 1, 9, 3, None, 5, 6))), [(6, 6)])
            self.assertEqual(border_of(p, with_depths(p, (7, 7, 7, 8, 7))), [(4, 0)])
            self.assertEqual(border_of(p, with_depths(p, (12, None, 8, 6, 4, 9, 3, 2, 2, 2, 3, 4, 9))),
                             [(4, -8), (3, -2), (2, 0), (2, 2), (1, 5)])
            # A mark far on the right takes back several sides that stood until then.
            self.assertEqual(border_of(p, with_depths(p, (9, 6, 4, 3, 3, 4, 6, 0))),
                             [(1, -3), (1, -2), (1, -1), (4, -3)])
            self.assertEqual(border_of(p, with_depths(p, (1, 1, 2, 4, 7, 0))), [(5, -1)])

    def test_as_long_as_it_goes_straight_on(self):
        for p in PRIMES:
            # Two runs of unlike length that rise alike for their run.
            self.assertEqual(border_of(p, with_depths(p, (3, None, 2, None, None, None, 0))), [(6, -3)])
            self.assertEqual(border_of(p, [1, 0, 0, p * p, 0, 0, 0, 0, 0, -p ** 6]), [(9, 6)])

    def test_falling_level_and_rising(self):
        for p in PRIMES:
            self.assertEqual(border_of(p, with_depths(p, (5, 0))), [(1, -5)])
            self.assertEqual(border_of(p, with_depths(p, (5, 5))), [(1, 0)])
            self.assertEqual(border_of(p, with_depths(p, (0, 5))), [(1, 5)])
            self.assertEqual(border_of(p, with_depths(p, (5, 2, 0, 0, 1))), [(1, -3), (1, -2), (1, 0), (1, 1)])

    def test_one_mark_alone(self):
        for p in PRIMES:
            for number in (1, -1, p, -p ** 60, 10 ** 199):
                for before, behind in ((0, 0), (0, 1), (3, 0), (6, 6), (12, 0)):
                    with self.subTest(p=p, number=number, before=before, behind=behind):
                        self.assertEqual(border_of(p, [0] * before + [number] + [0] * behind), [])

    def test_noughts_alone_are_refused(self):
        for p in PRIMES:
            for length in (1, 2, 13):
                with self.subTest(p=p, length=length), self.assertRaises(NoDepth):
                    border_of(p, [0] * length)

    def test_great_numbers(self):
        for p in PRIMES:
            top = max(e for e in range(700) if p ** e < 10 ** 190)
            for sign in (1, -1):
                self.assertEqual(border_of(p, [sign * p ** top, 1]), [(1, -top)])
                self.assertEqual(border_of(p, [1, 0, -sign * (p + 1) * p ** top]), [(2, top)])
                self.assertEqual(border_of(p, [sign * (10 ** 199 * p + 1), sign * p, 1]), [(2, 0)])
        self.hold_against_marks(2, (600, 13, 401, 5, None, 0, 602, 640, 599))

    def test_the_signs_do_not_matter(self):
        for p in PRIMES:
            for depths in ((3, 1, 0, 1), (0, 0, 2), (5, None, 2, 2, 9)):
                units = ((1,), (-1,), (1, -1), (-7, 6, p * p + 1))
                told = [border_of(p, with_depths(p, depths, some)) for some in units]
                self.assertEqual(told[1:], told[:1] * 3)


class Joined(unittest.TestCase):
    """Point 23."""

    def hold(self, one, other):
        wanted = plain_joined(one, other)
        for first, second in ((one, other), (other, one)):
            told = borders_joined(first, second)
            with self.subTest(one=first, other=second):
                self.assertIs(type(told), list)
                self.assertEqual(told, wanted)
                self.assertEqual([type(side) for side in told], [tuple] * len(told))

    def test_written_out(self):
        self.assertEqual(borders_joined([(1, -1)], [(2, 1)]), [(1, -1), (2, 1)])
        self.assertEqual(borders_joined([(2, 1)], [(1, -1)]), [(1, -1), (2, 1)])
        self.assertEqual(borders_joined([(1, -1), (2, 4)], [(3, -3), (1, 2)]), [(4, -4), (3, 6)])
        self.assertEqual(borders_joined([(2, -1)], [(4, -2), (5, 0)]), [(6, -3), (5, 0)])
        self.assertEqual(borders_joined([(1, 0)], [(7, 0)]), [(8, 0)])
        self.assertEqual(borders_joined([(3, 2)], [(2, 1), (1, 1)]), [(2, 1), (3, 2), (1, 1)])

    def test_against_plain_fractions(self):
        sides = [(1, -2), (2, -3), (1, -1), (3, -1), (4, 0), (5, 2), (2, 1), (1, 1)]
        borders = [list(some) for count in range(4) for some in itertools.combinations(sides, count)]
        others = [[], [(2, -4)], [(4, -6), (2, 0)], [(3, -3), (6, -2), (10, 4), (4, 2)], [(1, -9), (1, 9)],
                  [(3, -6), (3, 3)], [(1, 0), (7, 3)]]
        for one in borders:
            self.assertEqual(plain_joined(one, []), one)
            for other in others:
                self.hold(one, other)

    def test_with_none(self):
        self.assertEqual(borders_joined([], []), [])
        for border in ([(1, 0)], [(2, -1), (1, 0), (3, 5)], [(10 ** 99, -10 ** 99)]):
            self.hold(border, [])

    def test_all_alike(self):
        border = [(k, k * (k - 5)) for k in range(1, 20)]
        self.assertEqual(borders_joined(border, border), [(2 * run, 2 * rise) for run, rise in border])

    def test_a_hundred_figures(self):
        great = 10 ** 99 + 7
        # Rise by run differs in the last of some two hundred figures alone.
        self.hold([(great, great + 1)], [(great + 1, great + 2)])
        self.hold([(great, -great - 1)], [(great + 1, -great - 2)])
        self.hold([(great, -great), (great, 0), (great, great)], [(1, -1), (3, 0), (great - 1, great - 1)])
        self.hold([(1, -10 ** 100 + 1), (1, 10 ** 100 - 1)], [(2, -2 * 10 ** 99), (10 ** 100 - 1, 1)])
        self.hold([(10 ** 100 - 1, 1)], [(10 ** 100 - 2, 1)])
        self.hold([(3 * great, -2 * great)], [(3, -2), (great, great * 5)])
        told = borders_joined([(great, great)], [(great, great)])
        self.assertEqual(told, [(2 * great, 2 * great)])

    def test_many_sides(self):
        one = [(2 * k + 1, (2 * k + 1) * (k - 30)) for k in range(60)]
        other = [(k + 1, (k + 1) * (2 * k - 50)) for k in range(60)]
        self.hold(one, other)

    def test_the_border_of_a_product(self):
        for p in PRIMES:
            polynomials = [with_depths(p, depths) for depths in (
                (0,), (3,), (2, 0), (0, 0), (0, 4), (None, 1, 0), (3, 1, 0), (1, None, 0), (0, None, 3, 1),
                (5, 4, None, 0, 0, 1), (2, 1, 0, None), (9, 9, 3, 0, 2, 3), (4, None, None, None, 0, None, 1))]
            for f, g in itertools.product(polynomials, repeat=2):
                with self.subTest(p=p, f=f, g=g):
                    self.assertEqual(border_of(p, times(f, g)), borders_joined(border_of(p, f), border_of(p, g)))

    def test_the_border_of_a_product_tells_the_depths_of_the_roots(self):
        for p in PRIMES:
            product, joined = [1], []
            for root in (0 + p, -p * p, 7 * p * p, p + p ** 3, 10 ** 9 + 7, p ** 20):
                product = times(product, [-root, 1])
                joined = borders_joined(joined, [(1, -plain_depth(p, root))])
            self.assertEqual(border_of(p, product), joined)


class AskedAgain(unittest.TestCase):
    """Point 2."""

    def test_what_is_handed_in_stays_as_it_was(self):
        f = [0, 9, 3, 1, 27, 0]
        one, other = [(2, -2), (1, 0)], [(1, -1), (2, 0), (3, 1)]
        border_of(3, f)
        borders_joined(one, other)
        borders_joined(other, one)
        borders_joined(one, one)
        self.assertEqual(f, [0, 9, 3, 1, 27, 0])
        self.assertEqual((one, other), ([(2, -2), (1, 0)], [(1, -1), (2, 0), (3, 1)]))

    def test_behind_a_change_of_what_was_told(self):
        for deed in (lambda: border_of(3, [9, 3, 1, 27]), lambda: border_of(3, [5]), lambda: borders_joined([], []),
                     lambda: borders_joined([(1, 2)], []), lambda: borders_joined([], [(1, 2)]),
                     lambda: borders_joined([(1, 2)], [(2, 4)])):
            first, second = deed(), deed()
            self.assertEqual(first, second)
            self.assertIsNot(first, second)
            first.append((7, 7))
            first[0] = (8, 8)
            self.assertEqual(deed(), second)

    def test_the_list_told_is_none_that_was_handed_in(self):
        border = [(1, 2), (1, 3)]
        for told in (borders_joined(border, []), borders_joined([], border)):
            self.assertIsNot(told, border)
            told.clear()
            self.assertEqual(border, [(1, 2), (1, 3)])

    def test_behind_a_refusal(self):
        before = border_of(2, [4, 2, 1, 2])
        for turn in range(2):
            with self.assertRaises(NoDepth):
                border_of(2, [0, 0])
        self.assertEqual(border_of(2, [4, 2, 1, 2]), before)


if __name__ == "__main__":
    unittest.main()
