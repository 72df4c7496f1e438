"""The desk: keeps polynomials by names, is told rows and answers them with texts."""

from deeprests.balls import GREATEST_DEPTH, ball_of
from deeprests.borders import border_of
from deeprests.errors import NoName, NoPrime, NoRow, TooDeep, TooGreat
from deeprests.fractions import small_fraction
from deeprests.parts import parts_at
from deeprests.polynomials import poly_product, seen_from, slope_of
from deeprests.primes import is_prime
from deeprests.roots import endless_roots, root_of, single_depth
from deeprests.solving import solving_balls, solving_rests
from deeprests.texts import MOST_NUMBERS, can_be_written, is_made_of, read_number, read_poly, show_poly

LETTERS = "abcdefghijklmnopqrstuvwxyz"
MOST_LETTERS = 8
GREATEST_PRIME = 97

# What is wanted behind the first word of each row.
WANTED = {
    "poly": ("new", "poly"),
    "times": ("new", "name", "name"),
    "seen": ("new", "name", "number", "depth"),
    "slope": ("new", "name"),
    "drop": ("name",),
    "names": (),
    "show": ("name",),
    "solve": ("name", "depth"),
    "count": ("name", "depth"),
    "single": ("name", "number"),
    "root": ("name", "number", "depth"),
    "roots": ("name", "depth"),
    "border": ("name",),
    "small": ("number", "depth", "number"),
    "parts": ("name", "name", "name", "depth"),
}


def words_of(row):
    if not isinstance(row, str):
        raise NoRow("this is no text")
    # A blank at an end, or a second one, is to give a word without signs, so it is split at each.
    words = row.split(" ")
    if words[0] not in WANTED or len(words) != len(WANTED[words[0]]) + 1:
        raise NoRow("there is no such row")
    return words


def read_name(word):
    if len(word) < 1 or len(word) > MOST_LETTERS or not is_made_of(word, LETTERS):
        raise NoName("this is no name")
    return word


def read_depth(word):
    depth = read_number(word)
    if depth < 0 or depth > GREATEST_DEPTH:
        raise TooDeep("a depth is from 0 to 60")
    return depth


def listed(texts, without):
    if len(texts) == 0:
        return without
    return " ".join(texts)


def made_poly(p, things):
    return things[1]


def made_times(p, things):
    if len(things[1]) + len(things[2]) - 1 > MOST_NUMBERS:
        raise TooGreat("the product has too many numbers")
    return poly_product(things[1], things[2])


def made_seen(p, things):
    return seen_from(p, things[1], things[2], things[3])


def made_slope(p, things):
    return slope_of(things[1])


def told_show(p, things):
    return show_poly(things[0])


def told_solve(p, things):
    balls = solving_balls(p, things[0], things[1])
    return listed([f"{rest}@{depth}" for rest, depth in balls], "none")


def told_count(p, things):
    return str(solving_rests(p, things[0], things[1]))


def told_single(p, things):
    depth = single_depth(p, things[0], things[1])
    return "no" if depth is None else str(depth)


def told_root(p, things):
    return str(root_of(p, things[0], things[1], things[2]))


def told_roots(p, things):
    return listed([str(root) for root in endless_roots(p, things[0], things[1])], "none")


def told_border(p, things):
    return listed([f"{run}:{rise}" for run, rise in border_of(p, things[0])], "none")


def told_small(p, things):
    found = small_fraction(p, ball_of(p, things[0], things[1]), things[2])
    if found is None:
        return "no"
    top = found[0]
    bottom = found[1]
    return f"{top}/{bottom}"


def told_parts(p, things):
    found = parts_at(p, things[3], things[0], things[1], things[2])
    return " ".join([show_poly(part) for part in found])


# Rows by which a polynomial stands by a new name, and rows that only tell.
MADE = {"poly": made_poly, "times": made_times, "seen": made_seen, "slope": made_slope}
TOLD = {
    "show": told_show,
    "solve": told_solve,
    "count": told_count,
    "single": told_single,
    "root": told_root,
    "roots": told_roots,
    "border": told_border,
    "small": told_small,
    "parts": told_parts,
}


class Desk:
    def __init__(self, p):
        # Asked for as a whole number, and bounded, ahead of is_prime: anything may be handed in.
        if not isinstance(p, int) or p > GREATEST_PRIME or not is_prime(p):
            raise NoPrime("this is no prime from 2 to 97")
        self.prime = p
        self.kept = {}

    def say(self, row):
        words = words_of(row)
        deed = words[0]
        # All words are read, from the left, ahead of any deed, so a refusal changes nothing.
        things = [self.thing_of(wanted, word) for wanted, word in zip(WANTED[deed], words[1:])]
        if deed in MADE:
            return self.keep(words[1], MADE[deed](self.prime, things))
        if deed in TOLD:
            return TOLD[deed](self.prime, things)
        if deed == "drop":
            self.kept.pop(words[1])
            return "ok"
        return listed(sorted(self.kept), "")

    def thing_of(self, wanted, word):
        if wanted == "new":
            return read_name(word)
        if wanted == "name":
            return self.standing(read_name(word))
        if wanted == "poly":
            return read_poly(word)
        if wanted == "depth":
            return read_depth(word)
        return read_number(word)

    def standing(self, name):
        if name not in self.kept:
            raise NoName("no polynomial stands by this name")
        return self.kept[name]

    def keep(self, name, polynomial):
        if not all([can_be_written(number) for number in polynomial]):
            raise TooGreat("a number has too many figures")
        self.kept[name] = polynomial
        return "ok"
