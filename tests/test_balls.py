import unittest

from deeprests.balls import (
    ball_difference, ball_inverse, ball_of, ball_product, ball_quotient, ball_sum,
    common_ball, has, least_ball, lies_within)
from deeprests.errors import NoBall, NoInverse

PRIMES = (2, 3, 5, 7, 13, 53, 97)
STEPS = (-7, -1, 0, 1, 2, 5, 97)


def balls_up_to(p, most):
    return [(a, e) for e in range(most + 1) for a in range(p ** e)]


def deep_balls(p):
    """Shallow and deep balls: rests of 0, units, and rests that p divides little and often."""
    balls = [(0, 0)]
    for e in (1, 2, 5, 29, 31, 59, 60):
        rests = {0, 1, p ** e - 1, p ** (e - 1), p ** (e // 2), (p - 1) * p ** (e // 3), 10 ** 20 % p ** e}
        balls.extend((a, e) for a in sorted(rests))
    return balls


def members(p, ball):
    return [ball[0] + p ** ball[1] * step for step in STEPS]


def plain_least_ball(p, numbers):
    depth = 0
    while depth < 60 and len({x % p ** (depth + 1) for x in numbers}) == 1:
        depth += 1
    return (numbers[0] % p ** depth, depth)


class BallCase(unittest.TestCase):
    def assert_ball(self, p, thing):
        self.assertIs(type(thing), tuple)
        self.assertEqual([type(part) for part in thing], [int, int])
        self.assertTrue(0 <= thing[1] <= 60)
        self.assertTrue(0 <= thing[0] < p ** thing[1])


class Balls(BallCase):
    """Point 8."""

    def test_the_ball_of_a_number(self):
        for p in PRIMES:
            for e in (0, 1, 2, 17, 59, 60):
                for x in (0, 1, -1, p, -p, 96, -1000, p ** e, -p ** e, p ** e - 1, 10 ** 59, -10 ** 199):
                    ball = ball_of(p, x, e)
                    with self.subTest(p=p, e=e, x=x):
                        self.assert_ball(p, ball)
                        self.assertEqual(ball, (x % p ** e, e))
                        self.assertIs(has(p, ball, x), True)

    def test_written_out(self):
        self.assertEqual(ball_of(3, 11, 2), (2, 2))
        self.assertEqual(ball_of(3, -1, 2), (8, 2))
        self.assertEqual(ball_of(97, -1000, 0), (0, 0))
        self.assertEqual(ball_of(2, -1, 60), (2 ** 60 - 1, 60))

    def test_has_just_its_numbers(self):
        for p, most in ((2, 4), (3, 3), (5, 2)):
            for a, e in balls_up_to(p, most):
                for x in range(-60, 61):
                    with self.subTest(p=p, a=a, e=e, x=x):
                        self.assertIs(has(p, (a, e), x), x % p ** e == a)

    def test_has_when_deep(self):
        for p in PRIMES:
            ball = (1, 60)
            self.assertIs(has(p, ball, 1 - p ** 60), True)
            self.assertIs(has(p, ball, 1 + p ** 61), True)
            self.assertIs(has(p, ball, 1 + p ** 59), False)
            self.assertIs(has(p, ball, -1 - p ** 60), False)
            self.assertIs(has(p, (0, 0), -10 ** 199), True)

    def test_lies_within_just_where_all_numbers_are(self):
        for p, most in ((2, 4), (3, 2), (5, 2)):
            everything = range(p ** (most + 1))
            held = {ball: {x for x in everything if x % p ** ball[1] == ball[0]} for ball in balls_up_to(p, most)}
            for one in held:
                for other in held:
                    with self.subTest(p=p, one=one, other=other):
                        self.assertIs(lies_within(p, one, other), held[one] <= held[other])

    def test_lies_within_itself_and_within_all_whole_numbers(self):
        for p in PRIMES:
            for ball in deep_balls(p):
                self.assertIs(lies_within(p, ball, ball), True)
                self.assertIs(lies_within(p, ball, (0, 0)), True)
                self.assertIs(lies_within(p, (0, 0), ball), ball == (0, 0))

    def test_lies_within_when_deep(self):
        self.assertIs(lies_within(97, (5 + 97 ** 58, 60), (5, 58)), True)
        self.assertIs(lies_within(97, (5 + 97 ** 57, 60), (5, 58)), False)
        self.assertIs(lies_within(97, (5, 58), (5, 60)), False)


class LeastBall(BallCase):
    """Point 9."""

    def test_one_number(self):
        for p in PRIMES:
            for x in (0, 1, -1, p, -p, p ** 60, -p ** 61 - 1, 10 ** 199):
                self.assertEqual(least_ball(p, [x]), (x % p ** 60, 60))

    def test_numbers_that_are_all_one(self):
        for p in PRIMES:
            self.assertEqual(least_ball(p, [-4, -4, -4]), (p ** 60 - 4, 60))
            self.assertEqual(least_ball(p, [0] * 60), (0, 60))

    def test_differences_around_the_greatest_depth(self):
        for p in PRIMES:
            for e, depth in ((58, 58), (59, 59), (60, 60), (61, 60), (75, 60), (90, 60)):
                for sign in (1, -1):
                    with self.subTest(p=p, e=e, sign=sign):
                        self.assertEqual(least_ball(p, [7, 7 + sign * p ** e]), (7 % p ** depth, depth))

    def test_pairs_and_threes(self):
        numbers = (-27, -10, -8, -1, 0, 1, 2, 9, 16, 18, 97 * 97)
        for p in PRIMES:
            for x in numbers:
                for y in numbers:
                    for z in numbers:
                        ball = least_ball(p, [x, y, z])
                        self.assertEqual(ball, plain_least_ball(p, [x, y, z]))
            self.assert_ball(p, ball)

    def test_written_out(self):
        self.assertEqual(least_ball(3, [1, 10, 28]), (1, 2))
        self.assertEqual(least_ball(3, [-8, 10, 1]), (1, 2))
        self.assertEqual(least_ball(2, [0, 1]), (0, 0))
        self.assertEqual(least_ball(2, [1, 9, 5]), (1, 2))
        self.assertEqual(least_ball(97, [-1, 96]), (96, 1))

    def test_the_odd_one_out_wherever_it_stands(self):
        for place in range(60):
            numbers = [4] * 60
            numbers[place] = 4 + 3 ** 5
            self.assertEqual(least_ball(3, numbers), (4, 5))

    def test_another_order(self):
        numbers = [5, -22, 86, 5 + 3 ** 9, 5 - 3 ** 4]
        for turn in range(5):
            turned = numbers[turn:] + numbers[:turn]
            self.assertEqual(least_ball(3, turned), (5, 3))
            self.assertEqual(least_ball(3, turned[::-1]), (5, 3))

    def test_no_numbers_are_refused(self):
        for p in PRIMES:
            with self.assertRaises(NoBall):
                least_ball(p, [])

    def test_the_list_stays_as_it_was(self):
        numbers = [28, -1, 10, 1, 1]
        least_ball(3, numbers)
        self.assertEqual(numbers, [28, -1, 10, 1, 1])


class CommonBall(BallCase):
    """Point 10."""

    def test_against_the_numbers(self):
        for p, most in ((2, 4), (3, 2), (5, 2)):
            everything = range(p ** (most + 1))
            held = {ball: {x for x in everything if x % p ** ball[1] == ball[0]} for ball in balls_up_to(p, most)}
            for one in held:
                for other in held:
                    wanted = min(one, other, key=lambda ball: len(held[ball]))
                    if not held[one] & held[other]:
                        wanted = None
                    with self.subTest(p=p, one=one, other=other):
                        self.assertEqual(common_ball(p, one, other), wanted)

    def test_written_out(self):
        self.assertEqual(common_ball(3, (1, 1), (7, 2)), (7, 2))
        self.assertEqual(common_ball(3, (7, 2), (1, 1)), (7, 2))
        self.assertEqual(common_ball(3, (7, 2), (7, 2)), (7, 2))
        self.assertIsNone(common_ball(3, (1, 2), (7, 2)))
        self.assertIsNone(common_ball(3, (2, 1), (7, 2)))
        self.assertIsNone(common_ball(3, (7, 2), (2, 1)))

    def test_when_deep(self):
        for p in PRIMES:
            for ball in deep_balls(p):
                self.assertEqual(common_ball(p, ball, (0, 0)), ball)
                self.assertEqual(common_ball(p, (0, 0), ball), ball)
                self.assertEqual(common_ball(p, ball, ball), ball)
                self.assert_ball(p, common_ball(p, ball, (0, 0)))
            self.assertEqual(common_ball(p, (1 + p ** 59, 60), (1, 59)), (1 + p ** 59, 60))
            self.assertIsNone(common_ball(p, (1 + p ** 59, 60), (1, 60)))


class Reckoning(BallCase):
    """Point 11, and of point 3 what it says of sums, differences and products."""

    DEEDS = (
        (ball_sum, lambda x, y: x + y),
        (ball_difference, lambda x, y: x - y),
        (ball_product, lambda x, y: x * y),
    )

    def hold_against_numbers(self, p, one, other):
        pairs = [(x, y) for x in members(p, one) for y in members(p, other)]
        for deed, on_numbers in self.DEEDS:
            told = deed(p, one, other)
            results = [on_numbers(x, y) for x, y in pairs]
            with self.subTest(deed=deed.__name__, p=p, one=one, other=other):
                self.assert_ball(p, told)
                self.assertEqual({x % p ** told[1] for x in results}, {told[0]})
                if told[1] < 60:
                    self.assertGreater(len({x % p ** (told[1] + 1) for x in results}), 1)

    def test_small_balls(self):
        for p, most in ((2, 3), (3, 2), (5, 1)):
            for one in balls_up_to(p, most):
                for other in balls_up_to(p, most):
                    self.hold_against_numbers(p, one, other)

    def test_deep_balls(self):
        for p in (2, 3, 13, 97):
            balls = deep_balls(p)
            for one in balls:
                for other in balls[::2]:
                    self.hold_against_numbers(p, one, other)

    def test_sums_and_differences_written_out(self):
        self.assertEqual(ball_sum(3, (7, 2), (2, 1)), (0, 1))
        self.assertEqual(ball_sum(3, (7, 2), (5, 2)), (3, 2))
        self.assertEqual(ball_sum(97, (96, 1), (0, 0)), (0, 0))
        self.assertEqual(ball_difference(3, (7, 2), (8, 2)), (8, 2))
        self.assertEqual(ball_difference(3, (1, 1), (8, 2)), (2, 1))
        self.assertEqual(ball_difference(3, (8, 2), (1, 1)), (1, 1))
        self.assertEqual(ball_difference(2, (0, 60), (1, 60)), (2 ** 60 - 1, 60))

    def test_products_written_out(self):
        self.assertEqual(ball_product(3, (2, 1), (4, 2)), (2, 1))
        # 3 (1 + 3 s) times 6 + 9 t: the prime in both rests makes the product deeper.
        self.assertEqual(ball_product(3, (3, 2), (6, 2)), (18, 3))
        self.assertEqual(ball_product(3, (0, 2), (0, 3)), (0, 5))
        self.assertEqual(ball_product(3, (0, 2), (1, 3)), (0, 2))
        self.assertEqual(ball_product(3, (0, 2), (9, 3)), (0, 4))
        self.assertEqual(ball_product(2, (0, 0), (12, 5)), (0, 2))
        self.assertEqual(ball_product(2, (12, 5), (0, 0)), (0, 2))
        self.assertEqual(ball_product(2, (0, 0), (0, 5)), (0, 5))
        self.assertEqual(ball_product(97, (0, 0), (0, 0)), (0, 0))

    def test_a_product_is_at_most_sixty_deep(self):
        for p in PRIMES:
            self.assertEqual(ball_product(p, (0, 60), (0, 60)), (0, 60))
            self.assertEqual(ball_product(p, (0, 31), (0, 30)), (0, 60))
            self.assertEqual(ball_product(p, (0, 30), (0, 30)), (0, 60))
            self.assertEqual(ball_product(p, (0, 30), (0, 29)), (0, 59))
            self.assertEqual(ball_product(p, (p ** 20, 50), (p ** 15, 55)), (p ** 35, 60))
            self.assertEqual(ball_product(p, (p ** 30, 50), (p ** 35, 55)), (0, 60))


class InverseAndQuotient(BallCase):
    """Point 12."""

    def test_the_inverse(self):
        for p, most in ((2, 5), (3, 3), (5, 2), (97, 1)):
            for b, f in balls_up_to(p, most):
                if b % p != 0 and f != 0:
                    told = ball_inverse(p, (b, f))
                    with self.subTest(p=p, b=b, f=f):
                        self.assert_ball(p, told)
                        self.assertEqual(told, (pow(b, -1, p ** f), f))

    def test_the_inverse_of_the_inverse(self):
        for p in PRIMES:
            for ball in deep_balls(p):
                if ball[0] % p != 0:
                    self.assertEqual(ball_inverse(p, ball_inverse(p, ball)), ball)
                    self.assertEqual(ball_product(p, ball, ball_inverse(p, ball)), (1, ball[1]))

    def test_the_quotient(self):
        for p in (2, 3, 5, 97):
            for one in deep_balls(p):
                for b, f in deep_balls(p):
                    if b % p != 0:
                        told = ball_quotient(p, one, (b, f))
                        numbers = [x * y for x in members(p, one) for y in members(p, (pow(b, -1, p ** f), f))]
                        with self.subTest(p=p, one=one, b=b, f=f):
                            self.assert_ball(p, told)
                            self.assertEqual(told, plain_least_ball(p, numbers))

    def test_written_out(self):
        self.assertEqual(ball_inverse(3, (2, 2)), (5, 2))
        self.assertEqual(ball_inverse(97, (96, 1)), (96, 1))
        self.assertEqual(ball_quotient(3, (1, 2), (2, 2)), (5, 2))
        self.assertEqual(ball_quotient(3, (2, 2), (1, 1)), (2, 1))
        self.assertEqual(ball_quotient(3, (3, 2), (2, 1)), (6, 2))
        self.assertEqual(ball_quotient(3, (0, 2), (2, 1)), (0, 2))
        self.assertEqual(ball_quotient(3, (0, 0), (2, 1)), (0, 0))

    def test_refused(self):
        for p in PRIMES:
            for other in ((0, 0), (0, 1), (0, 60), (p, 2), (p ** 59, 60), (p ** 60 - p, 60)):
                with self.subTest(p=p, other=other):
                    with self.assertRaises(NoInverse):
                        ball_inverse(p, other)
                    for one in ((0, 0), (1, 1), (0, 60), other):
                        with self.assertRaises(NoInverse):
                            ball_quotient(p, one, other)


class AskedAgain(unittest.TestCase):
    """Point 2."""

    def answers(self, p):
        one, other, numbers = (p + 1, 2), (p - 1, 1), [1, 1 + p, 1 - p * p]
        told = [
            ball_of(p, -5, 3), has(p, one, -5), lies_within(p, one, other), least_ball(p, numbers),
            common_ball(p, one, other), ball_sum(p, one, other), ball_difference(p, one, other),
            ball_product(p, one, other), ball_inverse(p, one), ball_quotient(p, one, other),
        ]
        self.assertEqual((one, other, numbers), ((p + 1, 2), (p - 1, 1), [1, 1 + p, 1 - p * p]))
        return told

    def test_the_same_is_answered_the_same(self):
        first = [self.answers(p) for p in PRIMES]
        with self.assertRaises(NoBall):
            least_ball(2, [])
        with self.assertRaises(NoInverse):
            ball_inverse(2, (0, 0))
        self.assertEqual([self.answers(p) for p in reversed(PRIMES)], first[::-1])


if __name__ == "__main__":
    unittest.main()
