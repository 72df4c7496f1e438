import unittest

from deeprests.errors import NoDepth, NoInverse
from deeprests.primes import depth_of, inverse_of, is_prime, power_of, unit_of

PRIMES = (2, 3, 5, 7, 13, 53, 97)


class IsPrime(unittest.TestCase):
    """Point 4."""

    def test_from_below_nought_to_a_thousand(self):
        for x in range(-40, 1001):
            divisors = [d for d in range(1, x + 1) if x % d == 0]
            with self.subTest(x=x):
                self.assertIs(is_prime(x), divisors == [1, x] and x > 1)

    def test_known_ones(self):
        self.assertEqual([x for x in range(98) if is_prime(x)], [
            2, 3, 5, 7, 11, 13, 17, 19, 23, 29, 31, 37, 41, 43, 47,
            53, 59, 61, 67, 71, 73, 79, 83, 89, 97])
        self.assertIs(is_prime(997), True)
        self.assertIs(is_prime(961), False)
        self.assertEqual(len([x for x in range(1001) if is_prime(x)]), 168)

    def test_far_below_nought(self):
        for x in (-97, -997, -10 ** 59 - 7, -(10 ** 199)):
            self.assertIs(is_prime(x), False)

    def test_what_is_no_whole_number(self):
        things = (True, False, None, "", "7", "seven", [], [7], (), (7,), (2, 3), {}, {7: 7},
                  7.0, 2.5, b"7", {7}, object(), int, len)
        for thing in things:
            with self.subTest(thing=thing):
                self.assertIs(is_prime(thing), False)

    def test_things_handed_in_stay_as_they_were(self):
        numbers, kept = [2, 3], {2: [3]}
        is_prime(numbers)
        is_prime(kept)
        self.assertEqual((numbers, kept), ([2, 3], {2: [3]}))


class DepthAndUnit(unittest.TestCase):
    """Point 5."""

    def test_small_numbers(self):
        for p in PRIMES:
            for x in list(range(-300, 0)) + list(range(1, 301)):
                depth = max(e for e in range(12) if x % p ** e == 0)
                with self.subTest(p=p, x=x):
                    self.assertEqual(depth_of(p, x), depth)
                    self.assertEqual(unit_of(p, x) * p ** depth, x)

    def test_written_out(self):
        self.assertEqual((depth_of(2, 48), unit_of(2, 48)), (4, 3))
        self.assertEqual((depth_of(2, -48), unit_of(2, -48)), (4, -3))
        self.assertEqual((depth_of(3, -1), unit_of(3, -1)), (0, -1))
        self.assertEqual((depth_of(97, 97), unit_of(97, 97)), (1, 1))
        self.assertEqual((depth_of(97, -97 * 97), unit_of(97, -97 * 97)), (2, -1))

    def test_the_prime_taken_many_times(self):
        cases = ((2, 150, 10 ** 14 + 1), (2, 660, 1), (3, 100, 10 ** 11 + 7), (3, 410, 2),
                 (13, 50, 10 ** 3 + 7), (97, 25, 96 * 10 ** 7 + 1), (97, 100, 1), (2, 0, 10 ** 59 + 1))
        for p, depth, unit in cases:
            self.assertNotEqual(unit % p, 0)
            for sign in (1, -1):
                x = sign * unit * p ** depth
                self.assertLessEqual(len(str(abs(x))), 200)
                with self.subTest(p=p, depth=depth, sign=sign):
                    self.assertEqual(depth_of(p, x), depth)
                    self.assertEqual(unit_of(p, x), sign * unit)

    def test_nought_is_refused(self):
        for p in PRIMES:
            with self.assertRaises(NoDepth):
                depth_of(p, 0)
            with self.assertRaises(NoDepth):
                unit_of(p, 0)


class Power(unittest.TestCase):
    """Point 6."""

    def test_every_depth(self):
        for p in PRIMES:
            for e in range(61):
                self.assertEqual(power_of(p, e), p ** e)

    def test_written_out(self):
        self.assertEqual([power_of(2, 0), power_of(3, 0), power_of(97, 0)], [1, 1, 1])
        self.assertEqual([power_of(2, 1), power_of(3, 1), power_of(97, 1)], [2, 3, 97])
        self.assertEqual(power_of(2, 60), 1152921504606846976)
        self.assertEqual(power_of(3, 60), 42391158275216203514294433201)


class Inverse(unittest.TestCase):
    """Point 7."""

    def test_by_small_powers(self):
        for p, most in ((2, 6), (3, 4), (5, 3), (7, 2), (13, 2), (97, 1)):
            for e in range(1, most + 1):
                for x in range(-p ** e - 3, 2 * p ** e + 3):
                    if x % p != 0:
                        with self.subTest(p=p, e=e, x=x):
                            self.assertEqual(inverse_of(p, e, x), pow(x, -1, p ** e))

    def test_written_out(self):
        self.assertEqual(inverse_of(2, 1, 1), 1)
        self.assertEqual(inverse_of(3, 2, 2), 5)
        self.assertEqual(inverse_of(3, 2, -2), 4)
        self.assertEqual(inverse_of(5, 3, 128), 42)
        self.assertEqual(inverse_of(97, 1, 96), 96)

    def test_every_depth_and_great_numbers(self):
        for p in PRIMES:
            for x in (1, -1, p + 1, p - 1, 1 - 2 * p, p ** 60 + 1, p ** 90 - 1, -p ** 100 + 1,
                      p * (10 ** 57) + 1, 1 - p * (10 ** 197)):
                for e in range(1, 61):
                    with self.subTest(p=p, e=e, x=x):
                        self.assertEqual(inverse_of(p, e, x), pow(x, -1, p ** e))

    def test_at_the_depth_nought(self):
        for p in PRIMES:
            for x in (0, 1, -1, p, -p, p ** 61, 10 ** 59, -10 ** 199):
                answer = inverse_of(p, 0, x)
                self.assertEqual(answer, 0)
                self.assertNotIsInstance(answer, bool)

    def test_refused_where_the_prime_divides(self):
        for p in PRIMES:
            for e in (1, 2, 30, 60):
                for x in (0, p, -p, 3 * p, p ** e, -p ** 61, p * 10 ** 57):
                    with self.subTest(p=p, e=e, x=x), self.assertRaises(NoInverse):
                        inverse_of(p, e, x)


class AskedAgain(unittest.TestCase):
    """Point 2."""

    def answers(self, p):
        return [[is_prime(x), depth_of(p, x), unit_of(p, x), power_of(p, x), inverse_of(p, x, p * x + 1)]
                for x in range(1, 61)]

    def test_the_same_is_answered_the_same(self):
        first = [self.answers(p) for p in PRIMES]
        with self.assertRaises(NoDepth):
            depth_of(2, 0)
        with self.assertRaises(NoInverse):
            inverse_of(2, 1, 0)
        self.assertEqual([self.answers(p) for p in reversed(PRIMES)], first[::-1])


if __name__ == "__main__":
    unittest.main()
