import itertools
import unittest

from deeprests.balls import lies_within
from deeprests.solving import solving_balls, solving_rests

PRIMES = (2, 3, 5, 7, 13, 53, 97)


def plain_worth(f, x):
    return sum(number * x ** place for place, number in enumerate(f))


def product_of(factors):
    """The polynomial that is the product of x - a for each a."""
    product = [1]
    for a in factors:
        product = [left - a * right for left, right in zip([0] + product, product + [0])]
    return product


def solving_numbers(p, f, N):
    return {x for x in range(p ** N) if plain_worth(f, x) % p ** N == 0}


def greatest_balls(p, solving, N):
    """The balls that lie within the solving numbers and within no greater ball that does."""
    balls, left = [], set(solving)
    for e in range(N + 1):
        for a in sorted({x % p ** e for x in left}):
            if all(x in solving for x in range(a, p ** N, p ** e)):
                balls.append((a, e))
                left.difference_update(range(a, p ** N, p ** e))
    return sorted(balls)


class SolvingCase(unittest.TestCase):
    def assert_balls(self, p, told, N):
        self.assertIs(type(told), list)
        self.assertEqual(told, sorted(told))
        for ball in told:
            self.assertIs(type(ball), tuple)
            self.assertEqual([type(part) for part in ball], [int, int])
            self.assertTrue(0 <= ball[1] <= N)
            self.assertTrue(0 <= ball[0] < p ** ball[1])

    def hold_against_numbers(self, p, f, N):
        told = solving_balls(p, f, N)
        solving = solving_numbers(p, f, N)
        with self.subTest(p=p, f=f, N=N):
            self.assert_balls(p, told, N)
            covered = sorted(x for a, e in told for x in range(a, p ** N, p ** e))
            self.assertEqual(covered, sorted(solving))
            self.assertEqual(told, greatest_balls(p, solving, N))
            rests = solving_rests(p, f, N)
            self.assertIs(type(rests), int)
            self.assertEqual(rests, len(solving))

    def hold_no_greater_ball(self, p, f, N, told):
        """For depths at which the numbers can't be walked: every ball solves, the next greater one doesn't."""
        self.assert_balls(p, told, N)
        for a, e in told:
            self.assertTrue(all(plain_worth(f, a + p ** e * y) % p ** N == 0 for y in range(-2, len(f) + p)))
            if e > 0:
                around = [plain_worth(f, a + p ** (e - 1) * y) for y in range(-2, len(f) + p)]
                self.assertFalse(all(worth % p ** N == 0 for worth in around))
        for one, other in itertools.combinations(told, 2):
            self.assertFalse(lies_within(p, one, other) or lies_within(p, other, one))


class AgainstAllNumbers(SolvingCase):
    """Points 15 and 16, and of point 3 the sentence on the balls told of a polynomial."""

    def test_all_small_polynomials(self):
        for p, most in ((2, 5), (3, 3), (5, 2)):
            for f in itertools.product((-2, -1, 0, 1, 3, 4), repeat=3):
                for N in range(most + 1):
                    self.hold_against_numbers(p, list(f), N)

    def test_numbers_that_the_prime_divides(self):
        for p, most in ((2, 6), (3, 4)):
            for f in itertools.product((0, 1, p, -p * p, 2 * p ** 3), repeat=3):
                self.hold_against_numbers(p, list(f), most)

    def test_long_polynomials(self):
        for p, most in ((2, 8), (3, 5), (5, 3), (7, 2), (13, 2)):
            for f in ([1] * 13, [0] * 12 + [1], [-1] + [0] * 11 + [1], [p] * 12 + [1], [1] + [p] * 12,
                      list(range(-6, 7)), [k * k - 7 for k in range(13)], [6, 0, -5, 0, 0, 0, -1, 0, 0, 0, 0, 0, 0]):
                for N in (1, most - 1, most):
                    self.hold_against_numbers(p, f, N)

    def test_where_the_worth_is_divided_and_the_numbers_are_not(self):
        for p, most in ((2, 10), (3, 6), (5, 4), (7, 3)):
            for count in range(1, 13):
                for N in range(1, most + 1):
                    self.hold_against_numbers(p, product_of(range(count)), N)

    def test_by_ninety_seven(self):
        for f in ([1, 0, 1], [-1, 0, 1], [0, 0, 1], [2, 0, 1], [-97, 1], [-97 * 96, 0, 1], [5], [97], [97, 97]):
            for N in (0, 1, 2):
                self.hold_against_numbers(97, f, N)
        self.hold_against_numbers(97, product_of([0, 97, 1, -1, 50]), 2)

    def test_roots_near_each_other(self):
        for p, most in ((2, 10), (3, 6), (5, 4)):
            for roots in ([0, p], [1, 1 + p * p], [-1, -1 + p ** 3], [0, 0], [1, 1, 1], [0, p, 2 * p, p * p],
                          [2, 2 + p, 2 + p + p * p, 2 - p ** 3], [0, 0, p, p, 1]):
                for N in range(1, most + 1):
                    self.hold_against_numbers(p, product_of(roots), N)


class WrittenOut(SolvingCase):
    """Points 15 and 16."""

    def test_the_depth_nought(self):
        for p in PRIMES:
            for f in ([0], [5], [0] * 13, [1, 2, 3], [10 ** 199]):
                self.assertEqual(solving_balls(p, f, 0), [(0, 0)])
                self.assertEqual(solving_rests(p, f, 0), 1)

    def test_noughts_alone(self):
        for p in PRIMES:
            for length in (1, 2, 13):
                for N in (0, 1, 17, 60):
                    self.assertEqual(solving_balls(p, [0] * length, N), [(0, 0)])
                    self.assertEqual(solving_rests(p, [0] * length, N), p ** N)

    def test_no_solving_number(self):
        for p in PRIMES:
            for N in (1, 2, 60):
                for f in ([1], [-p - 1], [1, p, p * p], [1, 0, 0, 0], [p ** (N - 1)], [-p ** (N - 1), p ** N]):
                    with self.subTest(p=p, N=N, f=f):
                        self.assertEqual(solving_balls(p, f, N), [])
                        self.assertEqual(solving_rests(p, f, N), 0)
        self.assertEqual(solving_balls(2, [1, 0, 1], 2), [])
        self.assertEqual(solving_balls(3, [1, 0, 1], 60), [])
        self.assertEqual(solving_balls(3, [-3, 0, 1], 2), [])

    def test_all_numbers_solve(self):
        for p in PRIMES:
            for N in (1, 5, 60):
                for f in ([p ** N], [-p ** N, 0, p ** (N + 1)], [p ** N] * 13):
                    self.assertEqual(solving_balls(p, f, N), [(0, 0)])
                    self.assertEqual(solving_rests(p, f, N), p ** N)
        for p in (2, 3, 5, 7, 11):
            # p divides x^p - x wherever x stands, but p p doesn't.
            f = [0, -1] + [0] * (p - 2) + [1]
            self.assertEqual(solving_balls(p, f, 1), [(0, 0)])
            self.assertEqual(solving_rests(p, f, 1), p)
            self.assertEqual(len(solving_balls(p, f, 2)), p)
            self.assertEqual(solving_balls(p, [number * p ** 59 for number in f], 60), [(0, 0)])
        # 12! is divided by 2 ten times, and so is each product of twelve numbers in a row.
        self.assertEqual(solving_balls(2, product_of(range(12)), 10), [(0, 0)])
        self.assertNotEqual(solving_balls(2, product_of(range(12)), 11), [(0, 0)])

    def test_some(self):
        self.assertEqual(solving_balls(2, [1, 0, 1], 1), [(1, 1)])
        self.assertEqual(solving_balls(2, [-1, 0, 1], 3), [(1, 1)])
        self.assertEqual(solving_balls(2, [-1, 0, 1], 4), [(1, 3), (7, 3)])
        self.assertEqual(solving_balls(3, [-1, 0, 1], 2), [(1, 2), (8, 2)])
        self.assertEqual(solving_balls(3, [0, 0, 1], 3), [(0, 2)])
        self.assertEqual(solving_rests(3, [0, 0, 1], 3), 3)
        self.assertEqual(solving_balls(5, [-7, 1], 1), [(2, 1)])
        self.assertEqual(solving_balls(97, [-1, 0, 1], 1), [(1, 1), (96, 1)])

    def test_the_order_is_that_of_tuples(self):
        # The ball of the rest 1 is deeper than those behind it.
        told = solving_balls(3, product_of([0, 3, 1, 2, 2]), 4)
        self.assertEqual(told, sorted(told))
        self.assertEqual(told, [(0, 3), (1, 4), (2, 2), (3, 3)])


class Deep(SolvingCase):
    """Points 15 and 16 at depths where the numbers can't be walked."""

    def test_powers_of_a_difference(self):
        for p in PRIMES:
            for count in (1, 2, 3, 7, 12):
                for N in (1, 29, 59, 60):
                    e = -(-N // count)
                    a = 10 ** 14 + 3
                    with self.subTest(p=p, count=count, N=N):
                        self.assertEqual(solving_balls(p, product_of([a] * count), N), [(a % p ** e, e)])
                        self.assertEqual(solving_rests(p, product_of([a] * count), N), p ** (N - e))

    def test_two_roots_near_each_other(self):
        for p in PRIMES:
            f = product_of([1, 1 + p ** 20])
            self.assertEqual(solving_balls(p, f, 40), [(1, 20)])
            self.assertEqual(solving_balls(p, f, 60), sorted([(1, 40), (1 + p ** 20, 40)]))
            self.assertEqual(solving_rests(p, f, 60), 2 * p ** 20)
            self.assertEqual(solving_balls(p, f, 39), [(1, 20)])
            self.assertEqual(solving_balls(p, f, 38), [(1, 19)])
        for p in PRIMES[1:]:
            f = product_of([1, 1 + p ** 20])
            self.assertEqual(solving_balls(p, f, 41), [(1, 21), (1 + p ** 20, 21)])
        # By 2 the two balls make up a greater one.
        self.assertEqual(solving_balls(2, product_of([1, 1 + 2 ** 20]), 41), [(1, 20)])

    def test_squares(self):
        # 7 and 10 are squares by 3 at every depth, and 2 by 7; 3 is none by 7.
        for p, square in ((3, 7), (3, 10), (7, 2), (97, 2), (13, 3)):
            told = solving_balls(p, [-square, 0, 1], 60)
            self.assertEqual([e for a, e in told], [60, 60])
            self.assertEqual(sum(a for a, e in told), p ** 60)
            self.assertEqual([a * a % p ** 60 for a, e in told], [square, square])
            self.assertEqual(solving_rests(p, [-square, 0, 1], 60), 2)
        self.assertEqual(solving_balls(7, [-3, 0, 1], 60), [])

    def test_squares_by_two(self):
        told = solving_balls(2, [-17, 0, 1], 60)
        self.assertEqual([e for a, e in told], [59, 59])
        self.assertEqual([a * a % 2 ** 60 for a, e in told], [17, 17])
        self.assertEqual(solving_rests(2, [-17, 0, 1], 60), 4)

    def test_no_greater_ball_would_do(self):
        for p in PRIMES:
            for f in (product_of(range(12)), product_of([p ** k for k in range(12)]), [10 ** 199] * 13,
                      product_of([0, p, 1, 1, 1 + p ** 9, -1, -1, -1 - p ** 4]), [-(p ** 30), 0, 1],
                      [0] * 5 + [p ** 11, 0, 0, 1 - p, 1], [p ** 50 * number for number in (0, 1, 2, 3)]):
                before = [(0, 0)]
                for N in (1, 2, 11, 33, 59, 60):
                    told = solving_balls(p, f, N)
                    with self.subTest(p=p, f=f, N=N):
                        self.hold_no_greater_ball(p, f, N, told)
                        self.assertEqual(solving_rests(p, f, N), sum(p ** (N - e) for a, e in told))
                        # Point 3: they lie within those of a lesser depth.
                        self.assertTrue(all(any(lies_within(p, one, other) for other in before) for one in told))
                    before = told

    def test_known_roots_lie_in_the_balls(self):
        for p in PRIMES:
            roots = [0, 1, -1, p, -p, 1 + p ** 5, 7 * p ** 3, 10 ** 9, -10 ** 9, 1 - p ** 8, 96, 97]
            for N in (1, 20, 60):
                told = solving_balls(p, product_of(roots), N)
                for root in roots:
                    self.assertEqual(len([1 for a, e in told if (root - a) % p ** e == 0]), 1)


class DepthsWithin(SolvingCase):
    """Point 3: the solving balls of a greater depth lie within those of a lesser one."""

    def test_depth_by_depth(self):
        for p in PRIMES:
            for f in (product_of(range(6)), product_of([1, 1, 1 + p ** 3, p]), [-17, 0, 1], [p, p, 1], [4, 0, 0, p]):
                told = [solving_balls(p, f, N) for N in range(0, 61, 4)]
                for lesser, greater in zip(told, told[1:]):
                    for ball in greater:
                        self.assertEqual(len([1 for other in lesser if lies_within(p, ball, other)]), 1)


class AskedAgain(SolvingCase):
    """Point 2."""

    def test_the_polynomial_stays_as_it_was(self):
        f = [0, 0, 4, -8, 12, 0]
        for N in (0, 1, 5, 60):
            solving_balls(2, f, N)
            solving_rests(2, f, N)
        self.assertEqual(f, [0, 0, 4, -8, 12, 0])

    def test_behind_a_change_of_what_was_told(self):
        for p in PRIMES:
            for f in ([0, 0], [1], [0, -1, 0, 1], [p, p * p]):
                for N in (0, 1, 3):
                    first, second = solving_balls(p, f, N), solving_balls(p, f, N)
                    self.assertEqual(first, second)
                    self.assertIsNot(first, second)
                    rests = solving_rests(p, f, N)
                    first.append((7, 7))
                    first[0] = None
                    self.assertEqual(solving_balls(p, f, N), second)
                    self.assertEqual(solving_rests(p, f, N), rests)


if __name__ == "__main__":
    unittest.main()
