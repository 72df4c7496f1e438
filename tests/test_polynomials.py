import unittest

from deeprests.errors import NoDepth
from deeprests.polynomials import content_of, degree_of, poly_product, seen_from, slope_of, worth_at

PRIMES = (2, 3, 5, 7, 13, 53, 97)
GREAT = 10 ** 199 + 7
PLACES = (0, 1, -1, 2, -3, 97, -10 ** 20, 10 ** 59 + 1)
POLYNOMIALS = (
    [0], [5], [-GREAT], [0, 0], [0, 0, 0, 0], [0, 1], [7, 0], [3, -2, 0, 0], [0, 0, -4], [-6, 11, -6, 1],
    [GREAT, -GREAT, GREAT], [0] * 13, [0] * 12 + [1], [1] * 13, [-k * 10 ** k for k in range(13)],
    [(-1) ** k * (GREAT - k) for k in range(13)],
)


def plain_worth(f, x):
    return sum(number * x ** place for place, number in enumerate(f))


class PolynomialCase(unittest.TestCase):
    def assert_polynomial(self, thing, length):
        self.assertIs(type(thing), list)
        self.assertEqual([type(number) for number in thing], [int] * length)


class Worth(PolynomialCase):
    """Point 13: the worth and the degree."""

    def test_against_powers(self):
        for f in POLYNOMIALS:
            for x in PLACES + (GREAT, -GREAT):
                with self.subTest(f=f, x=x):
                    self.assertEqual(worth_at(f, x), plain_worth(f, x))

    def test_written_out(self):
        self.assertEqual(worth_at([5], 10 ** 9), 5)
        self.assertEqual(worth_at([1, 2, 3], 0), 1)
        self.assertEqual(worth_at([1, 2, 3], -2), 9)
        self.assertEqual(worth_at([0, 0, 0], 7), 0)
        self.assertEqual(worth_at([-6, 11, -6, 1], 3), 0)
        self.assertEqual(worth_at([1] * 13, 2), 8191)

    def test_degree(self):
        for f, degree in (([0], -1), ([0] * 13, -1), ([0, 0], -1), ([5], 0), ([-5, 0, 0], 0), ([0, 1], 1),
                          ([0, -1, 0], 1), ([0, 0, 1], 2), ([1, 0, 0, -GREAT, 0, 0], 3), ([1] * 13, 12),
                          ([0] * 12 + [-1], 12), ([GREAT] * 12 + [0], 11)):
            with self.subTest(f=f):
                self.assertEqual(degree_of(f), degree)


class Product(PolynomialCase):
    """Point 13: the product."""

    def hold(self, f, g):
        product = poly_product(f, g)
        with self.subTest(f=f, g=g):
            self.assert_polynomial(product, len(f) + len(g) - 1)
            for place in range(len(product)):
                wanted = sum(f[i] * g[place - i] for i in range(len(f)) if 0 <= place - i < len(g))
                self.assertEqual(product[place], wanted)
            for x in PLACES:
                self.assertEqual(plain_worth(product, x), plain_worth(f, x) * plain_worth(g, x))

    def test_all_that_are_short_enough(self):
        for f in POLYNOMIALS:
            for g in POLYNOMIALS:
                if len(f) + len(g) <= 14:
                    self.hold(f, g)

    def test_seven_and_seven(self):
        self.hold([1, -2, 3, -4, 5, -6, 7], [GREAT, 0, -1, 0, 10 ** 30, 0, -GREAT])
        self.hold([1, 2, 3, 0, 0, 0, 0], [4, 5, 0, 0, 0, 0, 0])
        self.hold([0] * 7, [0] * 7)

    def test_one_and_thirteen(self):
        long = list(range(-6, 7))
        self.assertEqual(poly_product([3], long), list(range(-18, 19, 3)))
        self.assertEqual(poly_product(long, [3]), list(range(-18, 19, 3)))
        self.assertEqual(poly_product([1], long), long)
        self.assertEqual(poly_product([0], long), [0] * 13)

    def test_written_out(self):
        self.assertEqual(poly_product([2], [3]), [6])
        self.assertEqual(poly_product([-1, 1], [1, 1]), [-1, 0, 1])
        self.assertEqual(poly_product([1, 1, 0], [2, 0]), [2, 2, 0, 0])
        self.assertEqual(poly_product([1, 1, 1], [-1, 1]), [-1, 0, 0, 1])
        self.assertEqual(poly_product([0, 0], [1, 2]), [0, 0, 0])


class Slope(PolynomialCase):
    """Point 13: the slope."""

    def test_one_number(self):
        for number in (0, 1, -5, GREAT):
            self.assertEqual(slope_of([number]), [0])

    def test_written_out(self):
        self.assertEqual(slope_of([4, -7]), [-7])
        self.assertEqual(slope_of([4, 0]), [0])
        self.assertEqual(slope_of([0, 0, 0]), [0, 0])
        self.assertEqual(slope_of([1, 2, 3, 0]), [2, 6, 0])
        self.assertEqual(slope_of([-6, 11, -6, 1]), [11, -12, 3])
        self.assertEqual(slope_of([1] * 13), list(range(1, 13)))
        self.assertEqual(slope_of([0, 0, -GREAT]), [0, -2 * GREAT])

    def test_the_slope_of_a_product(self):
        f, g = [3, -1, 0, 4, 2], [7, 0, -5, 1]
        for x in PLACES:
            self.assertEqual(
                worth_at(slope_of(poly_product(f, g)), x),
                worth_at(slope_of(f), x) * worth_at(g, x) + worth_at(f, x) * worth_at(slope_of(g), x))

    def test_its_length(self):
        for f in POLYNOMIALS:
            self.assert_polynomial(slope_of(f), max(1, len(f) - 1))


class Seen(PolynomialCase):
    """Point 14: a polynomial seen from a rest at a depth."""

    def test_its_worth_is_that_at_the_place_it_stands_for(self):
        for p in PRIMES:
            for e in (0, 1, 2, 7, 60):
                for a in (0, 1, -1, p - 1, p ** e - 1, p ** e, -p ** e - 2, p ** (e + 1) + 3, -10 ** 59):
                    for f in POLYNOMIALS[3:14]:
                        seen = seen_from(p, f, a, e)
                        with self.subTest(p=p, e=e, a=a, f=f):
                            self.assert_polynomial(seen, len(f))
                            # As many places as numbers settle a polynomial.
                            for y in range(-3, len(f)):
                                self.assertEqual(plain_worth(seen, y), plain_worth(f, a + p ** e * y))

    def test_great_numbers(self):
        f = [(-1) ** k * (GREAT - k) for k in range(13)]
        for a in (GREAT, -GREAT):
            seen = seen_from(97, f, a, 60)
            self.assertEqual(len(seen), 13)
            for y in range(-1, 13):
                self.assertEqual(plain_worth(seen, y), plain_worth(f, a + 97 ** 60 * y))

    def test_from_nought_at_the_depth_nought(self):
        for p in PRIMES:
            for f in POLYNOMIALS:
                self.assertEqual(seen_from(p, f, 0, 0), f)

    def test_written_out(self):
        self.assertEqual(seen_from(3, [5], -7, 4), [5])
        self.assertEqual(seen_from(3, [5, 0, 0], -7, 4), [5, 0, 0])
        self.assertEqual(seen_from(3, [0, 0, 1], 1, 0), [1, 2, 1])
        self.assertEqual(seen_from(3, [0, 0, 1], 1, 1), [1, 6, 9])
        self.assertEqual(seen_from(2, [0, 0, 1], -5, 2), [25, -40, 16])
        self.assertEqual(seen_from(2, [1, 1], 9, 3), [10, 8])
        self.assertEqual(seen_from(97, [0, 1, 0], 98, 2), [98, 9409, 0])

    def test_seen_from_twice(self):
        f = [4, -1, 0, 7, 3]
        for p in PRIMES:
            twice = seen_from(p, seen_from(p, f, -2, 3), p + 1, 2)
            self.assertEqual(twice, seen_from(p, f, -2 + p ** 3 * (p + 1), 5))


class Content(PolynomialCase):
    """Point 14: the content."""

    def test_written_out(self):
        self.assertEqual(content_of(2, [12]), 2)
        self.assertEqual(content_of(2, [-12]), 2)
        self.assertEqual(content_of(2, [7]), 0)
        self.assertEqual(content_of(3, [12, 18, 27]), 1)
        self.assertEqual(content_of(3, [9, 0, 27]), 2)
        self.assertEqual(content_of(3, [0, 0, 27]), 3)
        self.assertEqual(content_of(3, [0, -81, 0, 0]), 4)
        self.assertEqual(content_of(3, [9, 9, 1]), 0)
        self.assertEqual(content_of(97, [97, 97 * 97, -97]), 1)

    def test_every_number_divided_often(self):
        for p in PRIMES:
            for e in (1, 2, 30, 60, 90):
                power = p ** e
                for f, more in (([1], 0), ([0, -1], 0), ([p, 0, p * p], 1), ([1] * 13, 0), ([0] * 12 + [-p ** 3], 3),
                                ([p ** 9] * 12 + [-1 - p], 0), ([p + 1] + [0] * 12, 0)):
                    with self.subTest(p=p, e=e, f=f):
                        self.assertEqual(content_of(p, [power * number for number in f]), e + more)

    def test_noughts_alone_are_refused(self):
        for p in PRIMES:
            for length in (1, 2, 13):
                with self.subTest(p=p, length=length), self.assertRaises(NoDepth):
                    content_of(p, [0] * length)


class AskedAgain(PolynomialCase):
    """Point 2."""

    def answers(self, p, f, g):
        return [worth_at(f, p), degree_of(f), poly_product(f, g), slope_of(f), slope_of([p]),
                seen_from(p, f, 0, 0), seen_from(p, f, -4, 2), poly_product([1], f), content_of(p, f)]

    def test_lists_handed_in_stay_as_they_were(self):
        for p in PRIMES:
            f, g = [3, 0, -1, p, 0], [p, -p, 0]
            self.answers(p, f, g)
            self.assertEqual((f, g), ([3, 0, -1, p, 0], [p, -p, 0]))

    def test_behind_a_change_of_what_was_told(self):
        for p in PRIMES:
            f, g = [3, 0, -1, p, 0], [p, -p, 0]
            first = self.answers(p, f, g)
            second = self.answers(p, f, g)
            self.assertEqual(first, second)
            for told in first:
                if isinstance(told, list):
                    told[0] = 999
                    told.append(5)
            self.assertEqual((f, g), ([3, 0, -1, p, 0], [p, -p, 0]))
            self.assertEqual(self.answers(p, f, g), second)

    def test_no_two_lists_told_are_one(self):
        f = [1, 2, 3]
        told = [answer for turn in range(2) for answer in self.answers(2, f, f) if isinstance(answer, list)]
        self.assertEqual(len({id(answer) for answer in told + [f]}), len(told) + 1)

    def test_one_list_handed_in_twice(self):
        f = [1, -2, 3]
        self.assertEqual(poly_product(f, f), [1, -4, 10, -12, 9])
        self.assertEqual(f, [1, -2, 3])


if __name__ == "__main__":
    unittest.main()
