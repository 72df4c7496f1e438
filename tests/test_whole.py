"""Point 3, the promise as a whole: by the functions, and by the desk's answers."""

import itertools
import unittest

from deeprests.balls import ball_of, has, lies_within
from deeprests.desk import Desk
from deeprests.errors import NoSingle
from deeprests.parts import parts_at
from deeprests.roots import endless_roots, root_of, single_depth
from deeprests.solving import solving_balls, solving_rests

PRIMES = (2, 3, 5, 13, 97)
# Told as texts for the desk; the functions are handed the same as lists.
POLYNOMIALS = ("0", "0,0", "1", "8", "0,1", "-1,0,1", "-17,0,1", "0,-1,1", "6,-5,1", "0,0,1", "-8,0,0,1", "4,4,1,0",
               "0,9409,0,1", "-2,0,1", "97,3,0,0,0,1", "0,0,0,5,2,-1,1", "1,-3,3,-1,0", "-1," + "0," * 11 + "1")
WITHOUT_ENDLESS_TWICE = ("1", "0,1", "-1,0,1", "-17,0,1", "0,-1,1", "6,-5,1", "-2,0,1", "0,9409,0,1", "97,3,0,0,0,1",
                         "-6,11,-6,1", "-1," + "0," * 11 + "1", "-1,97", "5,5")
LADDER = list(range(1, 10)) + list(range(10, 60, 7)) + [59, 60]


def list_of(text):
    return [int(number) for number in text.split(",")]


def plain_worth(f, x):
    return sum(number * x ** place for place, number in enumerate(f))


class ByFunctions:
    """What is asked of the functions; the desk is asked the same below."""

    def __init__(self, p, text):
        self.p, self.f = p, list_of(text)

    def solve(self, N):
        return solving_balls(self.p, self.f, N)

    def count(self, N):
        return solving_rests(self.p, self.f, N)

    def single(self, a):
        return single_depth(self.p, self.f, a)

    def root(self, a, N):
        return root_of(self.p, self.f, a, N)

    def roots(self, N):
        return endless_roots(self.p, self.f, N)

    def parts(self, g, h, N):
        return parts_at(self.p, N, self.f, list_of(g), list_of(h))


class ByDesk:
    def __init__(self, p, text):
        self.desk = Desk(p)
        self.desk.say(f"poly f {text}")

    def solve(self, N):
        told = self.desk.say(f"solve f {N}")
        return [] if told == "none" else [tuple(map(int, ball.split("@"))) for ball in told.split(" ")]

    def count(self, N):
        return int(self.desk.say(f"count f {N}"))

    def single(self, a):
        told = self.desk.say(f"single f {a}")
        return None if told == "no" else int(told)

    def root(self, a, N):
        return int(self.desk.say(f"root f {a} {N}"))

    def roots(self, N):
        told = self.desk.say(f"roots f {N}")
        return [] if told == "none" else [int(root) for root in told.split(" ")]

    def parts(self, g, h, N):
        self.desk.say(f"poly g {g}")
        self.desk.say(f"poly h {h}")
        return tuple(list_of(part) for part in self.desk.say(f"parts f g h {N}").split(" "))


class Whole(unittest.TestCase):
    def each(self, texts):
        for p, text in itertools.product(PRIMES, texts):
            for way in (ByFunctions, ByDesk):
                yield p, list_of(text), way(p, text)

    def test_the_balls_hold_just_the_numbers_that_solve(self):
        for p, f, asked in self.each(POLYNOMIALS):
            with self.subTest(p=p, f=f, way=type(asked).__name__):
                for N in range({2: 8, 3: 5, 5: 4, 13: 3, 97: 2}[p]):
                    balls = asked.solve(N)
                    solving = [x for x in range(-3, p ** N + 3) if plain_worth(f, x) % p ** N == 0]
                    for x in range(-3, p ** N + 3):
                        self.assertEqual(sum(has(p, ball, x) for ball in balls), 1 if x in solving else 0)
                    self.assertEqual(asked.count(N), sum(0 <= x < p ** N for x in solving))

    def test_the_balls_hold_numbers_that_solve_at_great_depths(self):
        for p, f, asked in self.each(POLYNOMIALS):
            with self.subTest(p=p, f=f, way=type(asked).__name__):
                for N in (30, 60):
                    for a, e in asked.solve(N):
                        for x in (a, a + p ** e, a - 5 * p ** e, a + p ** 60):
                            self.assertEqual(plain_worth(f, x) % p ** N, 0)

    def test_the_balls_of_a_greater_depth_lie_within_those_of_a_lesser_one(self):
        for p, f, asked in self.each(POLYNOMIALS):
            with self.subTest(p=p, f=f, way=type(asked).__name__):
                ahead = asked.solve(0)
                self.assertEqual(ahead, [(0, 0)])
                for N in LADDER:
                    balls = asked.solve(N)
                    for ball in balls:
                        self.assertEqual(sum(lies_within(p, ball, other) for other in ahead), 1)
                    ahead = balls

    def test_a_single_rest_holds_one_endless_root_told_at_every_depth(self):
        for p, f, asked in self.each(WITHOUT_ENDLESS_TWICE):
            with self.subTest(p=p, f=f, way=type(asked).__name__):
                deepest = asked.roots(60)
                for a in (-18, -4, -3, -2, -1, 0, 1, 2, 3, 4, 7, 14, 83, 97, 10 ** 12):
                    d = asked.single(a)
                    if d is None:
                        self.assertRaises(NoSingle, asked.root, a, 1)
                        continue
                    within = [root for root in deepest if has(p, ball_of(p, a, d + 1), root)]
                    self.assertEqual(len(within), 1)
                    for N in (0, 1, 2, 3, 10, 59, 60):
                        self.assertEqual(asked.root(a, N), within[0] % p ** N)
                        self.assertIn(asked.root(a, N), asked.roots(N))

    def test_the_roots_at_a_depth_are_those_at_a_greater_one_from_farther_off(self):
        for p, f, asked in self.each(WITHOUT_ENDLESS_TWICE):
            with self.subTest(p=p, f=f, way=type(asked).__name__):
                deepest = asked.roots(60)
                for N in range(61):
                    self.assertEqual(asked.roots(N), sorted(root % p ** N for root in deepest))

    def test_the_roots_solve(self):
        for p, f, asked in self.each(WITHOUT_ENDLESS_TWICE):
            with self.subTest(p=p, f=f, way=type(asked).__name__):
                for N in (0, 1, 2, 9, 60):
                    balls = asked.solve(N)
                    for root in asked.roots(N):
                        self.assertEqual(sum(has(p, ball, root) for ball in balls), 1)

    def test_the_parts_at_a_depth_are_those_at_a_greater_one_from_farther_off(self):
        for p in PRIMES:
            for f, g, h in ((f"{p},{1 - p},1", "0,1", "1,1"),
                            (f"{p},0,{1 + p},{1 - p},{p * p},1", "0,0,1", f"1,1,{p},1"),
                            (f"{-p},{p + 1},1,{3 * p + 1}," + f"{p}," * 3 + "1", "0,1", "1,1,1,0,0,0,1")):
                for asked in (ByFunctions(p, f), ByDesk(p, f)):
                    deepest = asked.parts(g, h, 60)
                    for N in range(1, 61):
                        wanted = tuple([number % p ** N for number in part] for part in deepest)
                        with self.subTest(p=p, f=f, N=N):
                            self.assertEqual(asked.parts(g, h, N), wanted)

    def test_a_part_with_two_numbers_tells_a_root(self):
        for p in PRIMES:
            f = f"{p},{1 - p},1"
            for asked in (ByFunctions(p, f), ByDesk(p, f)):
                for N in range(1, 61):
                    parts = asked.parts("0,1", "1,1", N)
                    self.assertEqual(sorted(-part[0] % p ** N for part in parts), asked.roots(N))


if __name__ == "__main__":
    unittest.main()
