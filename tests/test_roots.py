import itertools
import unittest

from deeprests.errors import NoDepth, NoSingle, TooDeep
from deeprests.roots import endless_roots, root_of, single_depth

PRIMES = (2, 3, 5, 7, 13, 53, 97)
DEPTHS = (0, 1, 2, 3, 7, 31, 59, 60)


def plain_worth(f, x):
    return sum(number * x ** place for place, number in enumerate(f))


def plain_slope_worth(f, x):
    return sum(place * number * x ** (place - 1) for place, number in enumerate(f) if place > 0)


def plain_depth(p, x):
    return max(e for e in range(500) if x % p ** e == 0)


def times(f, g):
    product = [0] * (len(f) + len(g) - 1)
    for i, x in enumerate(f):
        for j, y in enumerate(g):
            product[i + j] += x * y
    return product


def product_of(factors):
    """The polynomial that is the product of x - a for each a."""
    product = [1]
    for a in factors:
        product = times(product, [-a, 1])
    return product


def plain_single_depth(p, f, a):
    rise = plain_slope_worth(f, a)
    if rise == 0:
        return None
    d = plain_depth(p, rise)
    worth = plain_worth(f, a)
    return d if worth == 0 or plain_depth(p, worth) >= 2 * d + 1 else None


class Single(unittest.TestCase):
    """Point 17."""

    def test_against_the_words(self):
        for p in (2, 3, 5, 97):
            for f in itertools.product((-3, -1, 0, 2, 8), repeat=3):
                for a in (-10, -9, -2, -1, 0, 1, 2, 3, 4, 9, 26, 96, 98):
                    told = single_depth(p, list(f), a)
                    with self.subTest(p=p, f=f, a=a):
                        self.assertEqual(told, plain_single_depth(p, list(f), a))
                        self.assertIn(type(told), (int, type(None)))

    def test_against_the_words_where_the_slope_is_deep(self):
        for p in (2, 3, 7):
            for near in (p, p * p, 3 * p ** 3):
                for more in range(0, 9):
                    f = times(product_of([0, near]), [1, 0, p])
                    for a in (p ** more, -p ** more, near + p ** more, near - 2 * p ** more):
                        with self.subTest(p=p, near=near, a=a):
                            self.assertEqual(single_depth(p, f, a), plain_single_depth(p, f, a))

    def test_the_slope_has_no_worth(self):
        for p in PRIMES:
            for f, a in (([5], 0), ([0], 3), ([0, 0, 0], -1), ([0, 0, 1], 0), ([1, -2, 1], 1), ([-9, 0, 1], 0),
                         (product_of([4, 4, 7]), 4), ([0], -10 ** 59)):
                with self.subTest(p=p, f=f, a=a):
                    self.assertIsNone(single_depth(p, f, a))

    def test_a_rest_that_is_a_root(self):
        for p in PRIMES:
            for e in (0, 1, 2, 29, 59, 80):
                f = product_of([5, 5 + p ** e])
                self.assertEqual(single_depth(p, f, 5), e)
                self.assertEqual(single_depth(p, f, 5 + p ** e), e)

    def test_just_deep_enough_and_just_not(self):
        for p in PRIMES:
            for d in (0, 1, 2, 20):
                # At 0 the slope's worth is p^d.
                for rest in ([1], [-1, p], [0] * 5):
                    f = [p ** d] + rest
                    for sign in (1, -1):
                        self.assertEqual(single_depth(p, [sign * p ** (2 * d + 1)] + f, 0), d)
                        self.assertEqual(single_depth(p, [sign * p ** (2 * d + 2)] + f, 0), d)
                        self.assertEqual(single_depth(p, [0] + f, 0), d)
                        self.assertIsNone(single_depth(p, [sign * p ** (2 * d)] + f, 0))

    def test_written_out(self):
        self.assertEqual(single_depth(2, [-17, 0, 1], 1), 1)
        self.assertEqual(single_depth(2, [-17, 0, 1], 3), 1)
        self.assertIsNone(single_depth(2, [-13, 0, 1], 1))
        self.assertIsNone(single_depth(2, [-17, 0, 1], 0))
        self.assertEqual(single_depth(7, [-2, 0, 1], 3), 0)
        self.assertEqual(single_depth(7, [-2, 0, 1], 3 - 7 ** 9), 0)
        self.assertEqual(single_depth(7, [-2, 0, 1], -3), 0)
        self.assertIsNone(single_depth(7, [-2, 0, 1], 2))

    def test_great_numbers(self):
        great = 10 ** 199 + 9
        self.assertEqual(single_depth(3, [-great, 1] + [0] * 11, great), 0)
        self.assertEqual(single_depth(2, [0] + [1] * 12, 2 ** 660), 0)
        self.assertIsNone(single_depth(97, [great] * 12 + [1], great))


class RootOfSingle(unittest.TestCase):
    """Point 18, and of point 3 the sentence on the ball of a rest that is told single."""

    def hold_against_numbers(self, p, f, a, most):
        d = single_depth(p, f, a)
        if d is None:
            with self.assertRaises(NoSingle):
                root_of(p, f, a, most)
            return
        for N in range(most + 1):
            with self.subTest(p=p, f=f, a=a, N=N):
                deep = max(N, d + 1)
                fitting = [r for r in range(a % p ** (d + 1), p ** deep, p ** (d + 1))
                           if plain_worth(f, r) % p ** (deep + d) == 0]
                self.assertEqual(len(fitting), 1)
                self.assertEqual(root_of(p, f, a, N), fitting[0] % p ** N)

    def test_against_all_numbers(self):
        for p, most in ((2, 8), (3, 5), (5, 3), (7, 3)):
            for f in itertools.product((-17, -1, 0, 1, 4), repeat=3):
                for a in (-p - 1, -1, 0, 1, 2, p, p ** 3 + 1):
                    self.hold_against_numbers(p, list(f), a, most)

    def test_against_all_numbers_where_the_slope_is_deep(self):
        for p, most in ((2, 9), (3, 6), (5, 4)):
            for near in (p, p * p):
                f = times(product_of([1, 1 + near, 2]), [1, p])
                for more in range(1, 8):
                    for a in (1 + p ** more, 1 + near - p ** more, 1 - p ** more):
                        self.hold_against_numbers(p, f, a, most)
        self.hold_against_numbers(97, [-2, 0, 1], 14, 2)
        self.hold_against_numbers(97, [-2, 0, 1], -14 - 97 ** 3, 2)

    def test_deep(self):
        for p in PRIMES:
            for d in (0, 1, 5, 29, 58, 59, 60, 75):
                f = times(product_of([-1, -1 + p ** d]), [1, p])
                for a in (-1, -1 + p ** (2 * d + 1), -1 - 5 * p ** (2 * d + 1), -1 + p ** d - p ** (2 * d + 4)):
                    self.assertEqual(single_depth(p, f, a), d)
                    root = -1 if (a + 1) % p ** (d + 1) == 0 else -1 + p ** d
                    for N in sorted({0, 1, min(d, 60), min(d + 1, 60), min(d + 2, 60), 59, 60}):
                        with self.subTest(p=p, d=d, a=a, N=N):
                            told = root_of(p, f, a, N)
                            self.assertIs(type(told), int)
                            self.assertEqual(told, root % p ** N)

    def test_a_root_that_is_no_whole_number(self):
        for p, f, a in ((7, [-2, 0, 1], 3), (7, [-2, 0, 1], 4), (2, [-17, 0, 1], 1), (2, [-17, 0, 1], -1),
                        (97, [-2, 0, 1], 14), (3, [-2, 0, 0, 0, 0, 1], 2), (13, [1] * 12, 3), (5, [1, 0, 1], -3)):
            d = single_depth(p, f, a)
            self.assertEqual(d, 1 if p == 2 else 0)
            deepest = root_of(p, f, a, 60)
            for N in range(61):
                root = root_of(p, f, a, N)
                with self.subTest(p=p, f=f, a=a, N=N):
                    self.assertEqual(root, deepest % p ** N)
                    self.assertEqual(root, root_of(p, f, a - 11 * p ** (d + 1), N))
                    self.assertEqual((root - a) % p ** min(N, d + 1), 0)
                    if N > d:
                        self.assertEqual(plain_worth(f, root) % p ** (N + d), 0)

    def test_fractions(self):
        for p in PRIMES:
            for top, bottom in ((1, p + 1), (-7, p - 1), (10 ** 30, 1 - p * p)):
                a = top * pow(bottom, -1, p)
                for N in DEPTHS:
                    self.assertEqual(root_of(p, [-top, bottom, 0], a, N), top * pow(bottom, -1, p ** N) % p ** N)

    def test_rests_above_and_below_the_power(self):
        for p in PRIMES:
            f = product_of([3, 4])
            for many in (-10 ** 40, -1, 1, 10 ** 40):
                self.assertEqual(root_of(p, f, 3 + many * p, 60), 3)
                self.assertEqual(root_of(p, f, 4 + many * p, 60), 4)
                self.assertEqual(root_of(p, f, 4 + many * p, 1), 4 % p)
                self.assertEqual(root_of(p, f, 4 + many * p, 0), 0)

    def test_refused(self):
        for p in PRIMES:
            for f, a in (([5], 0), ([0], 0), ([0, 0, 0], 1), ([0, 0, 1], 0), ([1, 1], 0), ([p, p], 0),
                         ([p * p, p, 1], 0), ([1, -2, 1], 1), ([-(p ** 4), p ** 2, 0], 0)):
                for N in (0, 1, 60):
                    with self.subTest(p=p, f=f, a=a, N=N), self.assertRaises(NoSingle):
                        root_of(p, f, a, N)

    def test_its_ball_holds_just_one_endless_root(self):
        for p in (2, 3, 5, 97):
            for f in ([-17, 0, 1], [-7, 0, 1], [-2, 0, 1], product_of([0, p, 1, 1 + p * p]), [0, p, 1, p],
                      times([-1, 0, 1], [4, p]), [p, -p * p, p ** 3]):
                for a in range(-9, 30):
                    d = single_depth(p, f, a)
                    if d is not None:
                        within = [r for r in endless_roots(p, f, 60) if (r - a) % p ** (d + 1) == 0]
                        with self.subTest(p=p, f=f, a=a):
                            self.assertEqual(len(within), 1)
                            for N in DEPTHS:
                                self.assertEqual(root_of(p, f, a, N), within[0] % p ** N)


class EndlessRoots(unittest.TestCase):
    """Points 19 and 20."""

    def hold(self, p, f, roots):
        """The roots are handed in as whole numbers that have the rests at the depth 60."""
        for N in DEPTHS:
            told = endless_roots(p, f, N)
            with self.subTest(p=p, f=f, N=N):
                self.assertIs(type(told), list)
                self.assertEqual([type(root) for root in told], [int] * len(told))
                self.assertEqual(told, sorted(root % p ** N for root in roots))

    def test_whole_roots_with_unlike_rests(self):
        for p in PRIMES:
            for count in (1, 2, min(p, 12)):
                roots = [(-1) ** k * k * (p + 1) for k in range(count)] if p > 24 else list(range(-1, count - 1))
                self.hold(p, product_of(roots), roots)
        self.hold(97, product_of([96, 1, 50, -3]), [96, 1, 50, -3])
        self.hold(5, product_of([10 ** 40, -10 ** 40 + 1]), [10 ** 40, -10 ** 40 + 1])

    def test_whole_roots_near_each_other(self):
        for p in PRIMES:
            for roots in ([0, p], [1, 1 + p], [0, p ** 5, p ** 9], [-1, -1 + p ** 30, -1 + p ** 59], [7, 7 - p ** 59],
                          [0, p, 2 * p, 3 * p, 1, 1 + p * p, 1 + p ** 3], [p ** k for k in range(12)],
                          [0, 1, -1, p, -p, p + 1, 2 * p ** 7, 5 - p ** 11]):
                self.assertEqual(len(set(roots)), len(roots))
                self.hold(p, product_of(roots), roots)

    def test_the_knots_may_be_fifty_nine(self):
        for p in PRIMES:
            self.hold(p, product_of([0, p ** 59]), [0, p ** 59])
            for N in DEPTHS:
                for far in (60, 61, 75):
                    with self.subTest(p=p, N=N, far=far), self.assertRaises(TooDeep):
                        endless_roots(p, product_of([0, p ** far]), N)

    def test_fractions(self):
        for p in PRIMES:
            bottom = pow(p + 1, -1, p ** 60)
            self.hold(p, times([-3, p + 1], [5, 1]), [3 * bottom, -5])
            # A fraction whose bottom the prime divides is no endless root, be it there twice.
            self.hold(p, [-1, p], [])
            self.hold(p, times([-1, p], [-4, 1]), [4])
            self.hold(p, times(times([-1, p], [-1, p]), [-4, 1]), [4])

    def test_quadratic_ones(self):
        for p in (2, 3, 5, 7, 97):
            for b, c in itertools.product(range(-7, 8), range(-9, 10)):
                under = b * b - 4 * c
                if under == 0:
                    with self.assertRaises(TooDeep):
                        endless_roots(p, [c, b, 1], 5)
                    continue
                deep = plain_depth(p, under)
                unit = under // p ** deep
                square = unit % 8 == 1 if p == 2 else pow(unit, (p - 1) // 2, p) == 1
                wanted = 2 if deep % 2 == 0 and square else 0
                told = endless_roots(p, [c, b, 1], 60)
                with self.subTest(p=p, b=b, c=c):
                    self.assertEqual(len(told), wanted)
                    if told:
                        # The sum and the product tell the two of them.
                        self.assertEqual(sum(told) % p ** 60, -b % p ** 60)
                        self.assertEqual(told[0] * told[1] % p ** 60, c % p ** 60)
                    self.hold(p, [c, b, 1], told)

    def test_without_an_endless_root(self):
        for p, f in ((2, [1, 0, 1]), (3, [1, 0, 1]), (7, [1, 0, 1]), (2, [-2, 0, 1]), (3, [-3, 0, 1]), (97, [-97, 0, 1]),
                     (2, [1, 1, 1]), (2, [-13, 0, 1]), (2, [-5, 0, 1]), (97, [-5, 0, 1]), (13, [-2] + [0] * 11 + [1]),
                     (3, [3, 0, 0, 9, 1]), (5, [-1, 5]), (5, [1, 0, 0, 0, 1])):
            self.hold(p, f, [])

    def test_squares_without_an_endless_root(self):
        for p, f in ((2, [1, 1, 1]), (3, [1, 0, 1]), (3, [-3, 0, 1]), (2, [-2, 0, 1]), (97, [-97, 0, 1])):
            self.hold(p, times(f, f), [])

    def test_a_number_alone(self):
        for p in PRIMES:
            for number in (1, -1, p, -p, p ** 60, 10 ** 199):
                for f in ([number], [number, 0, 0]):
                    self.hold(p, f, [])

    def test_one_that_the_prime_divides(self):
        for p in PRIMES:
            for e in (1, 5, 60):
                for roots in ([], [1], [0, 1], [3, 3 + p * p], [-p, p + p ** 3]):
                    self.hold(p, [number * p ** e for number in product_of(roots)], roots)

    def test_last_numbers_nought(self):
        for p in PRIMES:
            self.hold(p, product_of([2, 2 + p]) + [0] * 10, [2, 2 + p])

    def test_no_more_than_the_degree(self):
        for p in PRIMES:
            for f in ([6, -5, 1], [0, 1, 1], [-1] + [0] * 11 + [1], [0, 1] + [p] * 11, [-1, 1, 5, -5]):
                told = endless_roots(p, f, 60)
                self.assertLessEqual(len(told), len(f) - 1)
                for root in told:
                    self.assertEqual(plain_worth(f, root) % p ** 60, 0)
        # By 13 all rests but 0 are roots of x^12 - 1, and each leads to one at every depth.
        self.assertEqual(endless_roots(13, [-1] + [0] * 11 + [1], 1), list(range(1, 13)))
        self.assertEqual(len(endless_roots(97, [-1] + [0] * 11 + [1], 60)), 12)

    def test_noughts_alone_are_refused(self):
        for p in PRIMES:
            for length in (1, 2, 13):
                for N in DEPTHS:
                    with self.subTest(p=p, length=length, N=N), self.assertRaises(NoDepth):
                        endless_roots(p, [0] * length, N)

    def test_divided_by_another_one_twice(self):
        for p in PRIMES:
            twice = [product_of([0, 0]), product_of([1, 1]), product_of([-5, -5, 3]), product_of([0, 0, 0, p]),
                     product_of([p ** 9] * 12), times([1, p + 1], [1, p + 1]), [0, 0, p ** 9],
                     times(times([-1, p], [-1, p]), product_of([6, 6]))]
            for f in twice:
                for N in DEPTHS:
                    with self.subTest(p=p, f=f, N=N), self.assertRaises(TooDeep):
                        endless_roots(p, f, N)
        for p, f in ((5, [1, 0, 1]), (2, [-17, 0, 1]), (7, [-2, 0, 1])):
            with self.assertRaises(TooDeep):
                endless_roots(p, times(f, f), 1)

    def test_others_that_are_too_deep(self):
        for N in DEPTHS:
            for e in (118, 119, 120, 130, 600):
                with self.subTest(e=e, N=N), self.assertRaises(TooDeep):
                    endless_roots(2, [2 ** e, 0, 1], N)
            for e in (119, 120, 400):
                with self.subTest(e=e, N=N), self.assertRaises(TooDeep):
                    endless_roots(3, [3 ** e, 0, 1], N)
        # One knot fewer, and the search comes to an end.
        for e in (1, 2, 3, 50, 116, 117):
            self.hold(2, [2 ** e, 0, 1], [])
        self.hold(3, [-3 ** 118, 0, 1], [3 ** 59, -3 ** 59])
        self.hold(3, [3 ** 118, 0, 1], [])
        self.hold(3, [3 ** 117, 0, 1], [])

    def test_as_often_as_there_are_rows(self):
        for p in PRIMES:
            f = product_of([0, p ** 3, 1, 1 + p ** 5])
            self.assertEqual(endless_roots(p, f, 0), [0, 0, 0, 0])
            self.assertEqual(endless_roots(p, f, 3), [0, 0, 1, 1])
            self.assertEqual(endless_roots(p, f, 4), [0, 1, 1, p ** 3])
            self.assertEqual(endless_roots(p, f, 6), [0, 1, p ** 3, 1 + p ** 5])
            self.assertEqual(endless_roots(p, [5, 5 * p], 0), [])

    def test_written_out(self):
        self.assertEqual(endless_roots(7, [-2, 0, 1], 0), [0, 0])
        self.assertEqual(endless_roots(7, [-2, 0, 1], 1), [3, 4])
        self.assertEqual(endless_roots(7, [-2, 0, 1], 2), [10, 39])
        self.assertEqual(endless_roots(2, [-17, 0, 1], 1), [1, 1])
        self.assertEqual(endless_roots(2, [-17, 0, 1], 2), [1, 3])
        # 32 divides the worth at 7 and at 25, too, but no endless root leads through them.
        self.assertEqual(endless_roots(2, [-17, 0, 1], 5), [9, 23])


class Depths(unittest.TestCase):
    """Point 3: the roots at a depth are those at a greater one, looked at from farther off."""

    def test_every_depth(self):
        for p in PRIMES:
            for f in (product_of([0, p, 1, 1 + p ** 9, -1 - p ** 20]), [-17, 0, 1], [0, 1, p, -1], [-1] + [0] * 11 + [1]):
                deepest = endless_roots(p, f, 60)
                for N in range(61):
                    self.assertEqual(endless_roots(p, f, N), sorted(root % p ** N for root in deepest))


class AskedAgain(unittest.TestCase):
    """Point 2."""

    def test_the_polynomial_stays_as_it_was(self):
        for p in PRIMES:
            f = [number * p for number in product_of([0, p, 1])] + [0]
            kept = list(f)
            for N in (0, 1, 60):
                endless_roots(p, f, N)
                single_depth(p, f, 1)
                if single_depth(p, f, 1) is not None:
                    root_of(p, f, 1, N)
            self.assertEqual(f, kept)

    def test_behind_a_change_of_what_was_told(self):
        for p in PRIMES:
            for f in ([1], product_of([0, p, 1]), [0, 1]):
                for N in (0, 1, 60):
                    first, second = endless_roots(p, f, N), endless_roots(p, f, N)
                    self.assertEqual(first, second)
                    self.assertIsNot(first, second)
                    first.append(77)
                    first[0] = -1
                    self.assertEqual(endless_roots(p, f, N), second)

    def test_behind_a_refusal(self):
        before = (single_depth(2, [-17, 0, 1], 1), root_of(2, [-17, 0, 1], 1, 60), endless_roots(2, [-17, 0, 1], 60))
        for deed in (lambda: endless_roots(2, [0, 0, 1], 60), lambda: endless_roots(2, [0], 60),
                     lambda: root_of(2, [-17, 0, 1], 0, 60)):
            for turn in range(2):
                with self.assertRaises((NoDepth, NoSingle, TooDeep)):
                    deed()
        self.assertEqual(before, (
            single_depth(2, [-17, 0, 1], 1), root_of(2, [-17, 0, 1], 1, 60), endless_roots(2, [-17, 0, 1], 60)))


if __name__ == "__main__":
    unittest.main()
