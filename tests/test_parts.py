import itertools
import unittest

from deeprests.errors import NoParts
from deeprests.parts import parts_at

PRIMES = (2, 3, 5, 7, 13, 53, 97)
DEPTHS = (1, 2, 3, 7, 31, 59, 60)


def times(f, g):
    product = [0] * (len(f) + len(g) - 1)
    for i, x in enumerate(f):
        for j, y in enumerate(g):
            product[i + j] += x * y
    return product


def product_of(roots):
    """The polynomial that is the product of x - a for each a."""
    product = [1]
    for a in roots:
        product = times(product, [-a, 1])
    return product


def rests(f, power):
    return [number % power for number in f]


def with_last_one(p, length):
    return [list(some) + [1] for some in itertools.product(range(p), repeat=length - 1)]


def plain_divides(p, d, g):
    return any(rests(times(d, q), p) == rests(g, p) for q in with_last_one(p, len(g) - len(d) + 1))


def plain_common_divisor(p, g, h):
    return any(plain_divides(p, d, g) and plain_divides(p, d, h)
               for length in range(2, min(len(g), len(h)) + 1) for d in with_last_one(p, length))


class Fitting(unittest.TestCase):
    """Point 24: against all polynomials with small numbers."""

    def each_lifted(self, p, N, g):
        steps = range(0, p ** N, p)
        for more in itertools.product(steps, repeat=len(g) - 1):
            yield [number % p + step for number, step in zip(g, more)] + [1]

    def plain_parts(self, p, N, f, g, h):
        if rests(f, p) != rests(times(g, h), p) or plain_common_divisor(p, g, h):
            return None
        fitting = [(G, H) for G in self.each_lifted(p, N, g) for H in self.each_lifted(p, N, h)
                   if rests(times(G, H), p ** N) == rests(f, p ** N)]
        self.assertEqual(len(fitting), 1)
        return fitting[0]

    def hold(self, p, N, f, g, h):
        wanted = self.plain_parts(p, N, f, g, h)
        with self.subTest(p=p, N=N, f=f, g=g, h=h):
            if wanted is None:
                with self.assertRaises(NoParts):
                    parts_at(p, N, f, g, h)
            else:
                self.assertEqual(parts_at(p, N, f, g, h), wanted)

    def test_two_of_two_numbers(self):
        for p, N in ((2, 1), (2, 3), (3, 2), (5, 2)):
            for g in ([0, 1], [1, 1], [-1, 1], [p + 2, 1]):
                for h in ([0, 1], [1, 1], [3, 1], [-p, 1]):
                    for first, second in itertools.product(range(-3, 5), repeat=2):
                        self.hold(p, N, [first, second, 1], g, h)

    def test_two_and_three_numbers(self):
        for p, N in ((2, 1), (2, 3), (3, 2)):
            for g in ([0, 1], [1, 1], [-1, 1]):
                for h in with_last_one(p, 3):
                    for more in itertools.product((0, 1, -p), repeat=3):
                        f = [number + step for number, step in zip(times(g, h), list(more) + [0])]
                        self.hold(p, N, f, g, h)
                        self.hold(p, N, f, h, g)

    def test_three_numbers_each(self):
        for p, N in ((2, 2),):
            for g in with_last_one(p, 3):
                for h in with_last_one(p, 3):
                    for more in itertools.product((0, p), repeat=4):
                        f = [number + step for number, step in zip(times(g, h), list(more) + [0])]
                        self.hold(p, N, f, g, h)


class PutTogether(unittest.TestCase):
    """Point 24: parts put together and found back."""

    def pairs(self, p):
        """Whole polynomials that have no common divisor by p."""
        yield product_of([0]), product_of([1])
        yield product_of([-p]), product_of([p - 1, -1, -1 - p * p])
        yield product_of([0, p, p]), product_of([1, 1 - p ** 61])
        yield product_of([1] * 6), product_of([0] * 6)
        yield product_of([p * k for k in range(11)]), product_of([1 - p ** 3])
        yield product_of([10 ** 15 * p, -(10 ** 16) * p]), product_of([10 ** 15 * p + 1])
        yield [p ** 61 - 1, p, p ** 5, 1], [p, -p ** 7, 1]
        # Here one of them, or both, have no root by p.
        yield [1 + p, 1 - p, 1], [p, 0, 0, 1]
        yield [1, 1, 1 + p, 1, 1], [p * p, 0, p, 0, 0, p, 1]
        if p == 2:
            yield [3, 1, 1], [-1, 2, 1, 1]

    def test_found_back(self):
        for p in PRIMES:
            for G, H in self.pairs(p):
                f = times(G, H)
                for N in DEPTHS:
                    told = parts_at(p, N, f, rests(G, p), rests(H, p))
                    with self.subTest(p=p, N=N, G=G, H=H):
                        self.assertIs(type(told), tuple)
                        self.assertEqual([type(part) for part in told], [list, list])
                        self.assertEqual([type(number) for part in told for number in part], [int] * (len(f) + 1))
                        self.assertEqual(told, (rests(G, p ** N), rests(H, p ** N)))

    def test_numbers_above_and_below_the_power(self):
        for p in PRIMES:
            for G, H in self.pairs(p):
                wanted = {N: (rests(G, p ** N), rests(H, p ** N)) for N in (1, 60)}
                for many in (-1, 1, -10 ** 40, 10 ** 40, p ** 70, -p ** 70):
                    g = [number + many * p for number in G[:-1]] + [1]
                    h = [number - 3 * many * p for number in H[:-1]] + [1]
                    for N in (1, 60):
                        f = [number + many * p ** N for number in times(G, H)[:-1]] + [1]
                        with self.subTest(p=p, N=N, many=many, G=G, H=H):
                            self.assertEqual(parts_at(p, N, f, g, h), wanted[N])

    def test_in_the_other_order(self):
        for p in PRIMES:
            for G, H in self.pairs(p):
                for N in (1, 2, 60):
                    told = parts_at(p, N, times(G, H), rests(G, p), rests(H, p))
                    self.assertEqual(parts_at(p, N, times(G, H), rests(H, p), rests(G, p)), told[::-1])

    def test_parts_that_are_no_whole_polynomials(self):
        for p, f, g, h in ((7, [-2, 0, 1], [3, 1], [4, 1]), (97, [-2, 0, 1], [14, 1], [-14, 1]),
                           (2, [2, 1, 1], [0, 1], [1, 1]), (5, [1, 0, 1], [2, 1], [3, 1]),
                           (2, [7, 1, 0, 2, 0, 1], [1, 1, 1], [1, 0, 1, 1]),
                           (13, [-1] + [0] * 11 + [1], [-3, 1], [pow(3, 11 - k, 13) for k in range(12)]),
                           (3, [1, 2 - 3 * 10 ** 59, 5, 8, 1], [1, 0, 1], [1, 2, 1])):
            for N in DEPTHS:
                G, H = parts_at(p, N, f, g, h)
                with self.subTest(p=p, N=N, f=f):
                    self.assertEqual((len(G), len(H), G[-1], H[-1]), (len(g), len(h), 1, 1))
                    self.assertEqual((rests(G, p), rests(H, p)), (rests(g, p), rests(h, p)))
                    self.assertEqual((rests(G, p ** N), rests(H, p ** N)), (G, H))
                    self.assertEqual(rests(times(G, H), p ** N), rests(f, p ** N))

    def test_written_out(self):
        self.assertEqual(parts_at(7, 1, [-2, 0, 1], [3, 1], [4, 1]), ([3, 1], [4, 1]))
        self.assertEqual(parts_at(7, 2, [-2, 0, 1], [3, 1], [4, 1]), ([10, 1], [39, 1]))
        self.assertEqual(parts_at(7, 2, [-2, 0, 1], [-4, 1], [-3, 1]), ([10, 1], [39, 1]))
        self.assertEqual(parts_at(2, 3, [2, 3, 1], [0, 1], [1, 1]), ([2, 1], [1, 1]))

    def test_great_numbers(self):
        for p in PRIMES:
            great = p * (10 ** 190 + 1)
            f = times([great, 1], [1 - great, 1])
            self.assertEqual(parts_at(p, 60, f, [0, 1], [1, 1]), ([great % p ** 60, 1], [(1 - great) % p ** 60, 1]))
            self.assertEqual(parts_at(p, 60, f, [-great, 1], [great + 1, 1]), parts_at(p, 60, f, [0, 1], [1, 1]))

    def test_thirteen_numbers(self):
        for p in PRIMES:
            for length in range(2, 13):
                G = [p] * (length - 1) + [1]
                H = [p + 1] * (13 - length) + [1]
                self.assertEqual(len(times(G, H)), 13)
                self.assertEqual(parts_at(p, 60, times(G, H), rests(G, p), rests(H, p)), (G, H))


class Refused(unittest.TestCase):
    """Point 24: else, of whatever polynomials and N."""

    def refused(self, p, N, f, g, h):
        with self.subTest(p=p, N=N, f=f, g=g, h=h), self.assertRaises(NoParts):
            parts_at(p, N, f, g, h)

    def test_the_depth_nought(self):
        for p in PRIMES:
            self.refused(p, 0, [0, 1, 1], [0, 1], [1, 1])
            self.refused(p, -1, [0, 1, 1], [0, 1], [1, 1])
            self.refused(p, 0, [5], [0], [7, 7, 7])

    def test_a_common_divisor(self):
        for p in PRIMES:
            for g, h in (([0, 1], [0, 1]), ([1, 1], [1, 1]), ([-1, 1], [0, -1, 1]), ([1, 0, 1], [1, 0, 1]),
                         (product_of([1, 0, 0]), product_of([0, 5 * p + 1])), ([1, 1, 1], times([1, 1, 1], [3, 1]))):
                for N in DEPTHS:
                    self.refused(p, N, times(g, h), g, h)
                    self.refused(p, N, times(g, h), h, g)

    def test_a_common_divisor_by_the_prime_alone(self):
        for p in PRIMES:
            for g, h in (([0, 1], [p, 1]), ([3, 1], [3 - p, 1]), ([1, 0, 1], [1 + p, p, 1]), ([p, 0, 1], [p * p, 1]),
                         (product_of([2, 3]), product_of([2 + p, 7 * p]))):
                for N in (1, 2, 60):
                    self.refused(p, N, times(g, h), g, h)
        # By 2 these are the same, by 3 they have nothing in common.
        self.refused(2, 1, times([1, 1], [-1, 1]), [1, 1], [-1, 1])
        self.assertEqual(parts_at(3, 1, times([1, 1], [-1, 1]), [1, 1], [-1, 1]), ([1, 1], [2, 1]))

    def test_not_the_product_by_the_prime(self):
        for p in PRIMES:
            for G, H in (([0, 1], [1, 1]), ([0, 0, 1], [1, 1, 1]), ([p, 1], [1, p, p, 1])):
                f = times(G, H)
                for place in range(len(f) - 1):
                    for step in (1, -1, p + 1):
                        wrong = list(f)
                        wrong[place] += step
                        for N in (1, 60):
                            self.refused(p, N, wrong, G, H)
                    right = list(f)
                    right[place] += p
                    parts_at(p, 60, right, G, H)

    def test_a_last_number_other_than_one(self):
        for p in PRIMES:
            f, g, h = [0, 1, 1], [0, 1], [1, 1]
            for last in (0, -1, 2, p, p + 1, 1 - p):
                for N in (1, 60):
                    self.refused(p, N, f[:-1] + [last], g, h)
                    self.refused(p, N, f, g[:-1] + [last], h)
                    self.refused(p, N, f, g, h[:-1] + [last])
            # Their product is f all the same.
            self.refused(p, 1, [0, -1, 1], [0, -1], [1, -1])
            self.refused(p, 2, [0, p + 1, p + 1], [0, p + 1], [1, 1])

    def test_lengths_that_do_not_go_together(self):
        for p in PRIMES:
            for N in (1, 60):
                self.refused(p, N, [0, 1], [0, 1], [1, 1])
                self.refused(p, N, [0, 1, 1, 1], [0, 1], [1, 1])
                self.refused(p, N, [0, 1, 1, 0], [0, 1], [1, 1])
                self.refused(p, N, [0, 1, 1], [0, 0, 1], [1, 1])
                self.refused(p, N, [0, 1, 1], [0, 1], [1, 1, 0])
                self.refused(p, N, [0, 1, 1], [0, 1, 0], [1, 1, 0])
                self.refused(p, N, [1] * 13, [1] * 13, [1] * 13)
                self.refused(p, N, [1], [0, 1], [1, 1])

    def test_one_number_alone(self):
        for p in PRIMES:
            for f in ([1], [0, 1], [3, 4, 1]):
                for N in (0, 1, 60):
                    self.refused(p, N, f, [1], f)
                    self.refused(p, N, f, f, [1])
            self.refused(p, 1, [1], [1], [1])
            self.refused(p, 1, [0], [0], [0])

    def test_noughts_alone(self):
        for p in PRIMES:
            self.refused(p, 1, [0, 0, 0], [0, 0], [0, 0])
            self.refused(p, 1, [0, 0, 0], [0, 1], [1, 1])
            self.refused(p, 60, [0, 1, 1], [0, 0], [1, 1])


class Depths(unittest.TestCase):
    """Point 3: the parts at a depth are those at a greater one, looked at from farther off."""

    def test_every_depth(self):
        for p in PRIMES:
            for g, h in (([0, 1], [1, 1]), ([0, 0, 1], [1, 0, 1, 1]), ([-1, 1, 1], [0, 0, 0, 1]),
                         ([1] * 7, [0] * 6 + [1])):
                f = [number + (3 + place) * p for place, number in enumerate(times(g, h)[:-1])] + [1]
                deepest = parts_at(p, 60, f, g, h)
                for N in range(1, 61):
                    with self.subTest(p=p, f=f, N=N):
                        self.assertEqual(parts_at(p, N, f, g, h), tuple(rests(part, p ** N) for part in deepest))


class AskedAgain(unittest.TestCase):
    """Point 2."""

    def test_what_is_handed_in_stays_as_it_was(self):
        for N in (1, 2, 60):
            f, g, h = [-2, 0, 1], [-4, 1], [11, 1]
            parts_at(7, N, f, g, h)
            self.assertEqual((f, g, h), ([-2, 0, 1], [-4, 1], [11, 1]))
        for N in (0, 1):
            with self.assertRaises(NoParts):
                parts_at(7, N, f, g, g)
        self.assertEqual((f, g, h), ([-2, 0, 1], [-4, 1], [11, 1]))

    def test_behind_a_change_of_what_was_told(self):
        for N in (1, 2, 60):
            f, g, h = [-2, 0, 1], [3, 1], [4, 1]
            first, second = parts_at(7, N, f, g, h), parts_at(7, N, f, g, h)
            self.assertEqual(first, second)
            for part in first:
                for other in (*second, f, g, h):
                    self.assertIsNot(part, other)
            self.assertIsNot(first[0], first[1])
            for part in first:
                part[0] = 99
                part.append(5)
            self.assertEqual((f, g, h), ([-2, 0, 1], [3, 1], [4, 1]))
            self.assertEqual(parts_at(7, N, f, g, h), second)

    def test_behind_a_refusal(self):
        before = parts_at(7, 60, [-2, 0, 1], [3, 1], [4, 1])
        for turn in range(2):
            with self.assertRaises(NoParts):
                parts_at(7, 60, [-2, 0, 1], [3, 1], [3, 1])
        self.assertEqual(parts_at(7, 60, [-2, 0, 1], [3, 1], [4, 1]), before)


if __name__ == "__main__":
    unittest.main()
