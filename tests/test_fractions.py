import math
import unittest

from deeprests.balls import ball_of
from deeprests.errors import NoSmall
from deeprests.fractions import small_fraction

PRIMES = (2, 3, 5, 7, 13, 53, 97)


def greatest_bound(power):
    return math.isqrt((power - 1) // 2)


def all_small(p, e, m):
    """For each rest of the power the small fractions that its ball holds."""
    found = {}
    for b in range(1, m + 1):
        for t in range(-m, m + 1):
            if b % p != 0 and math.gcd(t, b) == 1:
                found.setdefault(t * pow(b, -1, p ** e) % p ** e, []).append((t, b))
    return found


class AgainstAllPairs(unittest.TestCase):
    """Point 21, for every ball of a small power."""

    def hold(self, p, e, m):
        found = all_small(p, e, m)
        for a in range(p ** e):
            pairs = found.get(a, [])
            with self.subTest(p=p, e=e, m=m, a=a):
                self.assertLessEqual(len(pairs), 1)
                self.assertEqual(small_fraction(p, (a, e), m), pairs[0] if pairs else None)

    def test_every_bound(self):
        for p, most in ((2, 9), (3, 6), (5, 4), (7, 3), (13, 2), (97, 1)):
            for e in range(1, most + 1):
                for m in range(1, greatest_bound(p ** e) + 1):
                    self.hold(p, e, m)

    def test_some_bounds(self):
        for m in (1, 2, 40, greatest_bound(97 * 97)):
            self.hold(97, 2, m)
        for m in (1, 16, greatest_bound(53 * 53)):
            self.hold(53, 2, m)


class FoundBack(unittest.TestCase):
    """Point 21: what is put into a ball is found back."""

    def hold(self, p, e, t, b, m):
        ball = ball_of(p, t * pow(b, -1, p ** e), e)
        told = small_fraction(p, ball, m)
        with self.subTest(p=p, e=e, t=t, b=b, m=m):
            self.assertIs(type(told), tuple)
            self.assertEqual([type(part) for part in told], [int, int])
            self.assertEqual(told, (t, b))

    def test_deep_balls(self):
        for p in PRIMES:
            for e in (20, 59, 60):
                m = greatest_bound(p ** e)
                for t in (-m, 1 - m, -m // 2, -p, -1, 0, 1, p, p ** (e // 3), m // 3, m - 1, m):
                    for b in (1, p - 1, p + 1, m // 2, m - 2, m - 1, m):
                        if 1 <= b <= m and b % p != 0 and math.gcd(t, b) == 1:
                            self.hold(p, e, t, b, m)
                            self.hold(p, e, t, b, max(abs(t), b))

    def test_whole_numbers(self):
        for p in PRIMES:
            m = greatest_bound(p ** 60)
            for t in (0, 1, -1, 5, -1000, 10 ** 8, m, -m):
                self.hold(p, 60, t, 1, m)

    def test_the_bound_leaves_it_out(self):
        for p in PRIMES:
            m = greatest_bound(p ** 60)
            for t, b in ((p ** 15 + 1, 1), (-p ** 15 - 1, 1), (1, p ** 15 + 1), (-1, p ** 15 + 1)):
                ball = ball_of(p, t * pow(b, -1, p ** 60), 60)
                self.assertEqual(small_fraction(p, ball, m), (t, b))
                self.assertEqual(small_fraction(p, ball, p ** 15 + 1), (t, b))
                self.assertIsNone(small_fraction(p, ball, p ** 15))
                self.assertIsNone(small_fraction(p, ball, 1))

    def test_written_out(self):
        self.assertEqual(small_fraction(5, (63, 3), 7), (1, 2))
        self.assertEqual(small_fraction(5, (62, 3), 7), (-1, 2))
        self.assertEqual(small_fraction(3, (0, 1), 1), (0, 1))
        self.assertEqual(small_fraction(3, (1, 1), 1), (1, 1))
        self.assertEqual(small_fraction(3, (2, 1), 1), (-1, 1))
        self.assertEqual(small_fraction(97, (96, 1), 6), (-1, 1))


class WithoutOne(unittest.TestCase):
    """Point 21: balls without a small fraction."""

    def test_a_ball_without_one(self):
        self.assertIsNone(small_fraction(5, (10, 3), 1))
        self.assertIsNone(small_fraction(2, (2, 2), 1))
        self.assertIsNone(small_fraction(97, (10, 1), 2))

    def test_a_bottom_that_the_prime_divides(self):
        # The pair (2, 2) is within the bound, but 2 divides its b, and (1, 1) stands in another ball.
        self.assertEqual((2 - 17 * 2) % 32, 0)
        self.assertIsNone(small_fraction(2, (17, 5), 3))
        for p in PRIMES:
            # t - a b is divided with t = p and b = p, and with no lesser pair.
            a = 1 + p ** 59
            self.assertEqual((p - a * p) % p ** 60, 0)
            self.assertIsNone(small_fraction(p, (a, 60), p))
            self.assertIsNone(small_fraction(p, (a, 60), greatest_bound(p ** 60)))

    def test_a_common_divisor(self):
        # The pair (3, 6) is within the bound, too; told is the one without a common divisor.
        self.assertEqual(small_fraction(5, (63, 3), 6), (1, 2))
        self.assertEqual(small_fraction(7, (0, 3), 13), (0, 1))
        for p in PRIMES:
            ball = ball_of(p, 2 * pow(p + 1, -1, p ** 60), 60)
            g = math.gcd(2, p + 1)
            self.assertEqual(small_fraction(p, ball, 50 * p), (2 // g, (p + 1) // g))


class Refused(unittest.TestCase):
    """Point 21: NoSmall."""

    def test_bounds_below_one(self):
        for p in PRIMES:
            for e in (0, 1, 60):
                for m in (0, -1, -2, -10 ** 199):
                    with self.subTest(p=p, e=e, m=m), self.assertRaises(NoSmall):
                        small_fraction(p, (0, e), m)

    def test_twice_the_bound_times_itself_equal_to_the_power(self):
        for e in range(1, 60, 2):
            m = 2 ** ((e - 1) // 2)
            self.assertEqual(2 * m * m, 2 ** e)
            for a in (0, 1, 2 ** e - 1):
                with self.assertRaises(NoSmall):
                    small_fraction(2, (a, e), m)
            if m > 1:
                self.assertEqual(small_fraction(2, (1, e), m - 1), (1, 1))

    def test_bounds_too_great(self):
        for p in PRIMES:
            for e in (1, 2, 3, 59, 60):
                m = greatest_bound(p ** e)
                for more in (1, 2, m + 1, 10 ** 199):
                    with self.subTest(p=p, e=e, more=more), self.assertRaises(NoSmall):
                        small_fraction(p, (0, e), m + more)
                if m > 0:
                    self.assertEqual(small_fraction(p, (0, e), m), (0, 1))

    def test_the_depth_nought(self):
        for p in PRIMES:
            for m in (1, 2, 10 ** 50):
                with self.assertRaises(NoSmall):
                    small_fraction(p, (0, 0), m)


class AskedAgain(unittest.TestCase):
    """Point 2."""

    def test_the_same_is_answered_the_same(self):
        first = [small_fraction(p, (p + 2, 9), 5) for p in PRIMES]
        with self.assertRaises(NoSmall):
            small_fraction(2, (0, 0), 1)
        self.assertEqual([small_fraction(p, (p + 2, 9), 5) for p in reversed(PRIMES)], first[::-1])


if __name__ == "__main__":
    unittest.main()
