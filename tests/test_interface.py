import importlib
import inspect
import unittest

INTERFACE = {
    "deeprests.primes": {
        "is_prime": ["thing"],
        "depth_of": ["p", "x"],
        "unit_of": ["p", "x"],
        "power_of": ["p", "e"],
        "inverse_of": ["p", "e", "x"],
    },
    "deeprests.balls": {
        "ball_of": ["p", "x", "e"],
        "has": ["p", "one", "x"],
        "lies_within": ["p", "one", "other"],
        "least_ball": ["p", "numbers"],
        "common_ball": ["p", "one", "other"],
        "ball_sum": ["p", "one", "other"],
        "ball_difference": ["p", "one", "other"],
        "ball_product": ["p", "one", "other"],
        "ball_inverse": ["p", "one"],
        "ball_quotient": ["p", "one", "other"],
    },
    "deeprests.polynomials": {
        "worth_at": ["f", "x"],
        "degree_of": ["f"],
        "poly_product": ["f", "g"],
        "slope_of": ["f"],
        "seen_from": ["p", "f", "a", "e"],
        "content_of": ["p", "f"],
    },
    "deeprests.solving": {
        "solving_balls": ["p", "f", "N"],
        "solving_rests": ["p", "f", "N"],
    },
    "deeprests.roots": {
        "single_depth": ["p", "f", "a"],
        "root_of": ["p", "f", "a", "N"],
        "endless_roots": ["p", "f", "N"],
    },
    "deeprests.fractions": {
        "small_fraction": ["p", "one", "m"],
    },
    "deeprests.borders": {
        "border_of": ["p", "f"],
        "borders_joined": ["one", "other"],
    },
    "deeprests.parts": {
        "parts_at": ["p", "N", "f", "g", "h"],
    },
    "deeprests.texts": {
        "read_number": ["text"],
        "read_poly": ["text"],
        "show_poly": ["f"],
    },
    "deeprests.desk": {
        "Desk": ["p"],
    },
}


class Interface(unittest.TestCase):
    def test_names_and_arguments_stand_as_told(self):
        for module, functions in INTERFACE.items():
            for name, arguments in functions.items():
                with self.subTest(module=module, name=name):
                    function = getattr(importlib.import_module(module), name)
                    self.assertEqual(list(inspect.signature(function).parameters), arguments)

    def test_the_desk_is_a_class_that_is_told_rows(self):
        desk = importlib.import_module("deeprests.desk").Desk
        self.assertIsInstance(desk, type)
        self.assertEqual(list(inspect.signature(desk(2).say).parameters), ["row"])


if __name__ == "__main__":
    unittest.main()
