import itertools
import unittest

from deeprests.balls import ball_of
from deeprests.borders import border_of
from deeprests.desk import Desk
from deeprests.errors import (
    NoDepth, NoName, NoParts, NoPrime, NoRow, NoSingle, NoSmall, NoText, RestError, TooDeep, TooGreat)
from deeprests.fractions import small_fraction
from deeprests.parts import parts_at
from deeprests.polynomials import poly_product, seen_from, slope_of
from deeprests.roots import endless_roots, root_of, single_depth
from deeprests.solving import solving_balls, solving_rests

PRIMES = (2, 3, 5, 13, 53, 97)
ALL_PRIMES = [p for p in range(2, 98) if all(p % d for d in range(2, p))]
POLYNOMIALS = ("0", "0,0,0", "5", "-2,0,1", "-17,0,1", "0,-1,1", "0,0,1", "6,-5,1", "-1,0,0,0,1", "7,0,49,0,0,343",
               "1,1", "0,97,1", "-6,11,-6,1", "9,3,1,6,9,0", "-1," + "0," * 11 + "1", "9" * 60 + ",-" + "9" * 60)
SMALL = ("0", "1", "-1", "3", "-17", "96", "-" + "9" * 60)
ROWS = (
    ("poly", "NEW", "F"), ("times", "NEW", "ONE", "ONE"), ("seen", "NEW", "ONE", "A", "N"), ("slope", "NEW", "ONE"),
    ("drop", "ONE"), ("names",), ("show", "ONE"), ("solve", "ONE", "N"), ("count", "ONE", "N"), ("single", "ONE", "A"),
    ("root", "ONE", "A", "N"), ("roots", "ONE", "N"), ("border", "ONE"), ("small", "A", "N", "A"),
    ("parts", "ONE", "ONE", "ONE", "N"),
)
GOOD = {"NEW": "new", "ONE": "f", "A": "1", "N": "3", "F": "1,2"}
NO_NAMES = ("", "F", "f1", "1", "-", "f_", "fF", "abcdefghi", "a" * 20, "f,g", "f\t", "f\n", "\u00e4", "\u0430", "1,2",
            "~")
NO_NUMBERS = ("", "f", "+1", "-0", "007", "1.0", "1,", "-", "1" * 61, "\u0663", "1_0", "1\n", "\t1", "--1")
BEYOND = ("-1", "61", "62", "100", "-60", "9" * 60, "-" + "9" * 60)


def text_of(numbers, between=" "):
    return between.join(str(number) for number in numbers)


def numbers_of(text, between=" "):
    return [int(word) for word in text.split(between)]


def what_stands(desk):
    return {name: desk.say("show " + name) for name in desk.say("names").split(" ") if name}


def desk_with(p, **polynomials):
    desk = Desk(p)
    for name, text in polynomials.items():
        desk.say(f"poly {name} {text}")
    return desk


class Refusing(unittest.TestCase):
    def refused(self, desk, row, kind):
        before = what_stands(desk)
        with self.subTest(row=repr(row)[:200], kind=kind.__name__):
            with self.assertRaises(RestError) as taken:
                desk.say(row)
            self.assertIs(type(taken.exception), kind)
            self.assertEqual(what_stands(desk), before)


class Making(unittest.TestCase):
    """Point 26: for which p there is a desk."""

    def test_primes(self):
        self.assertEqual(len(ALL_PRIMES), 25)
        for p in ALL_PRIMES:
            self.assertEqual(Desk(p).say("names"), "")

    def test_no_primes(self):
        for p in range(-100, 1000):
            if p not in ALL_PRIMES:
                with self.subTest(p=p), self.assertRaises(NoPrime):
                    Desk(p)

    def test_anything(self):
        for thing in (None, True, False, "", "2", "97", 2.0, 3.5, float("nan"), float("inf"), 2j, b"2", [], [2], (2,),
                      {2: 2}, {2}, object(), int, len, Desk, Desk(2), 10 ** 200 + 357, -10 ** 200, 2 ** 521 - 1, 101):
            with self.subTest(thing=thing), self.assertRaises(NoPrime):
                Desk(thing)

    def test_the_prime_is_the_desks_own(self):
        for p in PRIMES:
            desk = desk_with(p, f=f"{p},1")
            self.assertEqual(desk.say("border f"), "1:-1")
            self.assertEqual(desk.say("count f 60"), "1")
            self.assertEqual(desk.say("root f 0 60"), str(p ** 60 - p))


class Answers(unittest.TestCase):
    """Point 26: each row that the interface lists, with its answer."""

    def test_poly_and_show(self):
        desk = Desk(7)
        for text in POLYNOMIALS:
            self.assertEqual(desk.say(f"poly f {text}"), "ok")
            self.assertEqual(desk.say("show f"), text)
            self.assertIs(type(desk.say("show f")), str)

    def test_times(self):
        desk = desk_with(7, f="-1,1", g="1,1,0", h="0")
        self.assertEqual(desk.say("times k f g"), "ok")
        self.assertEqual(desk.say("show k"), "-1,0,1,0")
        self.assertEqual(desk.say("times k f f"), "ok")
        self.assertEqual(desk.say("show k"), "1,-2,1")
        self.assertEqual(desk.say("times k h g"), "ok")
        self.assertEqual(desk.say("show k"), "0,0,0")
        self.assertEqual((desk.say("show f"), desk.say("show g")), ("-1,1", "1,1,0"))

    def test_seen(self):
        desk = desk_with(3, f="0,0,1")
        self.assertEqual(desk.say("seen g f 1 1"), "ok")
        self.assertEqual(desk.say("show g"), "1,6,9")
        self.assertEqual(desk.say("seen g f -1 0"), "ok")
        self.assertEqual(desk.say("show g"), "1,-2,1")
        self.assertEqual(desk.say("seen g f 0 60"), "ok")
        self.assertEqual(desk.say("show g"), f"0,0,{3 ** 120}")
        self.assertEqual(desk.say("show f"), "0,0,1")

    def test_slope(self):
        desk = desk_with(3, f="5,4,3,2", g="7")
        self.assertEqual(desk.say("slope h f"), "ok")
        self.assertEqual(desk.say("show h"), "4,6,6")
        self.assertEqual(desk.say("slope h g"), "ok")
        self.assertEqual(desk.say("show h"), "0")

    def test_drop(self):
        desk = desk_with(3, f="5", g="7")
        self.assertEqual(desk.say("drop f"), "ok")
        self.assertEqual(desk.say("names"), "g")
        self.assertRaises(NoName, desk.say, "show f")
        self.assertRaises(NoName, desk.say, "drop f")
        self.assertEqual(desk.say("drop g"), "ok")
        self.assertEqual(desk.say("names"), "")
        self.assertEqual(desk.say("poly f 1"), "ok")
        self.assertEqual(desk.say("names"), "f")

    def test_names(self):
        desk = Desk(2)
        self.assertEqual(desk.say("names"), "")
        for name in ("b", "ab", "aaaaaaaa", "zz", "a", "names", "poly", "z", "abc", "ba"):
            self.assertEqual(desk.say(f"poly {name} 1"), "ok")
        self.assertEqual(desk.say("names"), "a aaaaaaaa ab abc b ba names poly z zz")
        desk.say("slope y z")
        desk.say("drop b")
        self.assertEqual(desk.say("names"), "a aaaaaaaa ab abc ba names poly y z zz")
        desk.say("poly ab 2")
        self.assertEqual(desk.say("names"), "a aaaaaaaa ab abc ba names poly y z zz")

    def test_written_out(self):
        desk = desk_with(2, f="-1,0,1", g="-17,0,1", z="0", one="1")
        for row, answer in (
                ("solve f 4", "1@3 7@3"), ("solve f 0", "0@0"), ("solve z 60", "0@0"), ("solve one 1", "none"),
                ("solve one 0", "0@0"), ("count f 4", "4"), ("count one 1", "0"), ("count one 0", "1"),
                ("count z 10", "1024"), ("single g 1", "1"), ("single g 0", "no"), ("single z 0", "no"),
                ("root g 1 5", "9"), ("root g 1 0", "0"), ("roots g 5", "9 23"), ("roots g 1", "1 1"),
                ("roots g 0", "0 0"), ("roots one 9", "none"), ("border f", "2:0"), ("border one", "none"),
                ("small 3 5 3", "3/1"), ("small -3 5 3", "-3/1"), ("small 0 5 3", "0/1"), ("small 6 5 3", "no"),
                ("show one", "1")):
            with self.subTest(row=row):
                self.assertEqual(desk.say(row), answer)
        desk = desk_with(5, f="0,1", g="25,5,0,1,5,0", h="-1,5", k="1,0,1", two="2,1", three="3,1")
        for row, answer in (
                ("single f 0", "0"), ("border g", "1:-1 2:-1 1:1"), ("border h", "1:1"), ("small 63 3 7", "1/2"),
                ("small -63 3 7", "-1/2"), ("small 62 3 7", "-1/2"), ("small 188 3 7", "1/2"), ("roots h 9", "none"),
                ("parts k two three 1", "2,1 3,1"), ("parts k two three 3", "57,1 68,1"),
                ("parts k three two 3", "68,1 57,1"), ("roots k 3", "57 68"), ("root k -3 3", "57")):
            with self.subTest(row=row):
                self.assertEqual(desk.say(row), answer)

    def hold(self, desk, row, deed, shown):
        """The answer is as the function tells, or the refusal is."""
        try:
            wanted = shown(deed())
        except RestError as refusal:
            with self.subTest(row=row), self.assertRaises(type(refusal)):
                desk.say(row)
            return
        with self.subTest(row=row):
            told = desk.say(row)
            self.assertIs(type(told), str)
            self.assertEqual(told, wanted)

    def test_against_the_functions(self):
        for p, text in itertools.product(PRIMES, POLYNOMIALS):
            desk = desk_with(p, f=text)
            f = numbers_of(text, ",")
            self.hold(desk, "border f", lambda: border_of(p, f),
                      lambda sides: text_of([f"{run}:{rise}" for run, rise in sides]) or "none")
            for N in (0, 1, 2, 5, 60):
                self.hold(desk, f"solve f {N}", lambda: solving_balls(p, f, N),
                          lambda balls: text_of([f"{a}@{e}" for a, e in balls]) or "none")
                self.hold(desk, f"count f {N}", lambda: solving_rests(p, f, N), str)
                self.hold(desk, f"roots f {N}", lambda: endless_roots(p, f, N), lambda roots: text_of(roots) or "none")
                for a in SMALL:
                    self.hold(desk, f"root f {a} {N}", lambda: root_of(p, f, int(a), N), str)
            for a in SMALL:
                self.hold(desk, f"single f {a}", lambda: single_depth(p, f, int(a)),
                          lambda depth: "no" if depth is None else str(depth))

    def test_small_against_the_function(self):
        for p in PRIMES:
            desk = Desk(p)
            for a in SMALL + ("63", "-63", "5" * 60):
                for N in (0, 1, 2, 5, 60):
                    for m in ("-1", "0", "1", "2", "7", "1000000000", "9" * 60):
                        self.hold(desk, f"small {a} {N} {m}", lambda: small_fraction(p, ball_of(p, int(a), N), int(m)),
                                  lambda found: "no" if found is None else f"{found[0]}/{found[1]}")

    def test_parts_against_the_function(self):
        texts = ("0,1", "1,1", "-1,1", "0,1,1", "-1,0,1", "0,-1,1", "1,0,1", "5", "0", "0,0,1,1", "1,1,1", "0,2")
        for p in PRIMES:
            desk = desk_with(p, **{"f" + chr(97 + place): text for place, text in enumerate(texts)})
            for three in itertools.product(range(len(texts)), repeat=3):
                lists = [numbers_of(texts[place], ",") for place in three]
                names = text_of(["f" + chr(97 + place) for place in three])
                for N in (0, 1, 3):
                    self.hold(desk, f"parts {names} {N}", lambda: parts_at(p, N, *lists),
                              lambda found: text_of(found[0], ",") + " " + text_of(found[1], ","))

    def test_new_ones_against_the_functions(self):
        for p, (one, other) in itertools.product(PRIMES, itertools.product(POLYNOMIALS[:14], repeat=2)):
            desk = desk_with(p, f=one, g=other)
            f, g = numbers_of(one, ","), numbers_of(other, ",")
            self.assertEqual(desk.say("times h f g"), "ok")
            self.assertEqual(desk.say("show h"), text_of(poly_product(f, g), ","))
            self.assertEqual(desk.say("slope h f"), "ok")
            self.assertEqual(desk.say("show h"), text_of(slope_of(f), ","))
            for a, N in ((0, 0), (-3, 1), (10 ** 9, 2), (p, 5)):
                seen = seen_from(p, g, a, N)
                if max(map(abs, seen)) < 10 ** 60:
                    self.assertEqual(desk.say(f"seen h g {a} {N}"), "ok")
                    self.assertEqual(desk.say("show h"), text_of(seen, ","))
                else:
                    self.assertRaises(TooGreat, desk.say, f"seen h g {a} {N}")
            self.assertEqual((desk.say("show f"), desk.say("show g")), (one, other))

    def test_as_many_figures_as_they_need(self):
        desk = desk_with(97, z="0", f="1,1", k="-2,0,1", g="14,1", h="-14,1")
        self.assertEqual(desk.say("count z 60"), str(97 ** 60))
        self.assertEqual(len(desk.say("count z 60")), 120)
        self.assertEqual(desk.say("solve f 60"), f"{97 ** 60 - 1}@60")
        self.assertEqual(desk.say("root f -1 60"), str(97 ** 60 - 1))
        self.assertEqual(desk.say("roots f 60"), str(97 ** 60 - 1))
        roots = sorted(numbers_of(desk.say("roots k 60")))
        self.assertEqual([root * root % 97 ** 60 for root in roots], [2, 2])
        parts = [numbers_of(part, ",") for part in desk.say("parts k g h 60").split(" ")]
        self.assertEqual(parts, [[root, 1] for root in sorted(roots, key=lambda root: root % 97)])

    def test_a_new_name_by_which_a_polynomial_stands(self):
        desk = desk_with(3, f="1,2", g="5")
        self.assertEqual(desk.say("poly f 3,4"), "ok")
        self.assertEqual(desk.say("show f"), "3,4")
        self.assertEqual(desk.say("times f f f"), "ok")
        self.assertEqual(desk.say("show f"), "9,24,16")
        self.assertEqual(desk.say("slope f f"), "ok")
        self.assertEqual(desk.say("show f"), "24,32")
        self.assertEqual(desk.say("seen f f 1 1"), "ok")
        self.assertEqual(desk.say("show f"), "56,96")
        self.assertEqual(desk.say("slope g f"), "ok")
        self.assertEqual((desk.say("show g"), desk.say("show f"), desk.say("names")), ("96", "56,96", "f g"))

    def test_a_polynomial_stays_when_the_one_it_came_from_is_gone(self):
        desk = desk_with(3, f="1,2,3")
        desk.say("slope g f")
        desk.say("seen h f 0 0")
        desk.say("poly f 0")
        desk.say("drop f")
        self.assertEqual((desk.say("show g"), desk.say("show h"), desk.say("names")), ("2,6", "1,2,3", "g h"))

    def test_names_of_one_to_eight_letters(self):
        desk = Desk(2)
        for name in ("a", "z", "az", "abcdefgh", "zzzzzzzz", "poly", "none", "ok"):
            self.assertEqual(desk.say(f"poly {name} 1,2"), "ok")
            self.assertEqual(desk.say(f"show {name}"), "1,2")


class Rows(Refusing):
    """Point 26: NoRow."""

    def test_no_text(self):
        desk = desk_with(2, f="1")
        for thing in (None, True, 0, 7, 1.5, b"names", [], ["names"], ("names",), {"names": 1}, object(), desk, str):
            self.refused(desk, thing, NoRow)

    def test_first_words(self):
        desk = desk_with(2, f="1")
        for row in ("", " ", "  ", "f", "Names", "NAMES", "name", "namess", "names\n", "\tnames", " names", "nam es",
                    "ok", "none", "poly", "Poly f 1", " poly f 1", "POLY f 1", "polys f 1", "po ly f", "poly\tf 1",
                    "poly,f,1", "help", "quit", "1", "roots\tf\t1", "new f 1", "__init__", "say f", "keep f 1",
                    "\u0430"):
            self.refused(desk, row, NoRow)

    def test_counts_of_words(self):
        desk = desk_with(2, f="1")
        for wanted in ROWS:
            words = [GOOD.get(word, word) for word in wanted]
            row = " ".join(words)
            for wrong in (row + " ", " " + row, row + " f", row + " 1 1", row.replace(" ", "  ") + " ", "  " + row):
                self.refused(desk, wrong, NoRow)
            if len(words) > 1:
                self.refused(desk, " ".join(words[:-1]), NoRow)
                self.refused(desk, words[0], NoRow)
                self.refused(desk, words[0] + " " + row[len(words[0]):], NoRow)

    def test_ahead_of_all_that_is_wrong_in_the_words(self):
        desk = desk_with(2, f="1")
        for row in ("poly F x y", "solve q 99 1", "small x 99", "nothing F q 99", "show", "parts q q q", "poly 1 ,, "):
            self.refused(desk, row, NoRow)


class Words(Refusing):
    """Point 26: NoName, NoText and TooDeep, word by word from the left."""

    WRONG = {
        "NEW": [(word, NoName) for word in NO_NAMES],
        "ONE": [(word, NoName) for word in NO_NAMES + ("q", "ff", "new", "names")],
        "A": [(word, NoText) for word in NO_NUMBERS + ("1,2",)],
        "N": [(word, NoText) for word in NO_NUMBERS + ("1,2",)] + [(word, TooDeep) for word in BEYOND],
        "F": [(word, NoText) for word in NO_NUMBERS + (",", ",1", "1,,2", "1,-0", "1," * 13 + "1", "1," + "1" * 61)],
    }

    def test_each_word_alone(self):
        desk = desk_with(2, f="1,1")
        for wanted in ROWS:
            for place in range(1, len(wanted)):
                for word, kind in self.WRONG[wanted[place]]:
                    words = [GOOD.get(one, one) for one in wanted]
                    words[place] = word
                    self.refused(desk, " ".join(words), kind)

    def test_the_first_one_that_is_due(self):
        desk = desk_with(2, f="1,1")
        for wanted in ROWS:
            for left, right in itertools.combinations(range(1, len(wanted)), 2):
                for word, kind in self.WRONG[wanted[left]][::3] + self.WRONG[wanted[left]][-1:]:
                    for other, behind in self.WRONG[wanted[right]][::4] + self.WRONG[wanted[right]][-1:]:
                        words = [GOOD.get(one, one) for one in wanted]
                        words[left], words[right] = word, other
                        self.refused(desk, " ".join(words), kind)

    def test_written_out(self):
        desk = desk_with(2, f="1,1")
        for row, kind in (
                ("poly F x", NoName), ("poly g x", NoText), ("poly  1", NoName), ("poly g ", NoText), ("show ", NoName),
                ("times f q f", NoName), ("times f f q", NoName), ("times 1 q q", NoName), ("seen g q x 61", NoName),
                ("seen g f x 61", NoText), ("seen g f 1 61", TooDeep), ("seen g f 1 x", NoText),
                ("small x 61 y", NoText), ("small 1 61 y", TooDeep), ("small 1 x y", NoText), ("small 1 60 y", NoText),
                ("small 1 -1 0", TooDeep),
                ("solve q 61", NoName), ("solve f 61", TooDeep), ("solve f -1", TooDeep), ("solve f -0", NoText),
                ("solve f 060", NoText), ("solve f " + "1" * 61, NoText), ("solve f " + "1" * 60, TooDeep),
                ("root f x 61", NoText), ("root f 1 61", TooDeep), ("parts f q f 61", NoName),
                ("parts f f f 61", TooDeep),
                ("drop q", NoName), ("drop F", NoName), ("border q", NoName), ("single q x", NoName),
                ("single f x", NoText), ("roots q x", NoName), ("count f x", NoText), ("slope q q", NoName)):
            self.refused(desk, row, kind)

    def test_ahead_of_what_the_deed_refuses(self):
        desk = desk_with(2, z="0", f="1,1", long=",".join("1" * 13), square="0,0,1", great="9" * 60)
        for row, kind in (
                ("roots z x", NoText), ("roots z 61", TooDeep), ("roots square x", NoText), ("root z 1 x", NoText),
                ("root z 1 61", TooDeep), ("small 1 0 x", NoText), ("small x 0 0", NoText), ("parts z z q 0", NoName),
                ("parts z z z -1", TooDeep), ("parts z z z x", NoText), ("times F long long", NoName),
                ("times g long q", NoName), ("seen g long " + "9" * 60 + " x", NoText),
                ("seen g long " + "9" * 60 + " 61", TooDeep)):
            self.refused(desk, row, kind)

    def test_depths_from_nought_to_sixty(self):
        desk = desk_with(2, f="1,1")
        for N in range(61):
            self.assertEqual(desk.say(f"count f {N}"), "1")
            self.assertEqual(desk.say(f"solve f {N}"), f"{2 ** N - 1}@{N}")
            self.assertEqual(desk.say(f"seen g f 0 {N}"), "ok")
            self.assertEqual(desk.say("show g"), f"1,{2 ** N}")


class Deeds(Refusing):
    """Point 26: what the deed itself refuses."""

    def test_refused_as_the_functions_are(self):
        for p in PRIMES:
            desk = desk_with(p, z="0", zz="0,0,0", f="1,1", one="1", square="0,0,1", g="0,1", h="0,1,1", k="1,1")
            for row, kind in (
                    ("roots z 0", NoDepth), ("roots zz 60", NoDepth), ("border z", NoDepth), ("border zz", NoDepth),
                    ("roots square 0", TooDeep), ("roots square 60", TooDeep), ("root f 0 5", NoSingle),
                    ("root one 0 0", NoSingle), ("root z 0 60", NoSingle), ("root square 0 1", NoSingle),
                    ("small 0 0 1", NoSmall), ("small 5 60 0", NoSmall), ("small 5 60 -1", NoSmall),
                    ("small 5 1 97", NoSmall), ("small 5 3 " + "9" * 60, NoSmall), ("parts h g k 0", NoParts),
                    ("parts square g g 5", NoParts), ("parts z z z 1", NoParts), ("parts h g f 0", NoParts),
                    ("parts g h k 3", NoParts), ("parts one one one 1", NoParts), ("parts h h one 1", NoParts)):
                self.refused(desk, row, kind)
            self.assertEqual(desk.say("parts h g k 1"), "0,1 1,1")

    def test_products_of_more_than_thirteen_numbers(self):
        for p in PRIMES:
            for length in range(1, 14):
                for other in range(1, 14):
                    desk = desk_with(p, f=",".join("1" * length), g=",".join("0" * other), k="7")
                    if length + other - 1 <= 13:
                        self.assertEqual(desk.say("times h f g"), "ok")
                        self.assertEqual(desk.say("show h"), ",".join("0" * (length + other - 1)))
                    else:
                        for new in ("h", "f", "g", "k"):
                            self.refused(desk, f"times {new} f g", TooGreat)
                            self.refused(desk, f"times {new} g f", TooGreat)

    def test_products_with_too_many_figures(self):
        for p in (2, 97):
            desk = desk_with(p, f="1" + "0" * 29, g="1" + "0" * 30, h="1" + "0" * 31, m="-1" + "0" * 30,
                             a="9" * 60 + ",1", b="1,1", k="7")
            self.assertEqual(desk.say("times new f g"), "ok")
            self.assertEqual(desk.say("show new"), "1" + "0" * 59)
            desk.say("drop new")
            for new in ("new", "g", "k"):
                for row in ("f h", "g g", "m g", "g m", "a b", "b a", "a a"):
                    self.refused(desk, f"times {new} {row}", TooGreat)

    def test_slopes_with_too_many_figures(self):
        for p in (2, 97):
            for sign in ("", "-"):
                desk = desk_with(p, f=f"0,0,{sign}5" + "0" * 59, g=f"0,0,{sign}4" + "9" * 59, h="9" * 60 + ",1,1",
                                 m="0," * 11 + f"{sign}9" + "0" * 59 + ",1", k="7")
                self.assertEqual(desk.say("slope new g"), "ok")
                self.assertEqual(desk.say("show new"), f"0,{sign}" + "9" * 59 + "8")
                self.assertEqual(desk.say("slope new h"), "ok")
                self.assertEqual(desk.say("show new"), "1,2")
                for new in ("other", "new", "k", "f"):
                    self.refused(desk, f"slope {new} f", TooGreat)
                    self.refused(desk, f"slope {new} m", TooGreat)

    def test_seen_with_too_many_figures(self):
        desk = desk_with(2, f="0,1", g="1" + "0" * 59 + ",1", long=",".join("1" * 13), k="7")
        self.assertEqual(desk.say("seen new f " + "9" * 60 + " 60"), "ok")
        self.assertEqual(desk.say("show new"), "9" * 60 + "," + str(2 ** 60))
        self.assertEqual(desk.say("seen new g 8" + "9" * 59 + " 0"), "ok")
        self.assertEqual(desk.say("show new"), "9" * 60 + ",1")
        for new in ("other", "new", "k"):
            for row in ("g 9" + "0" * 59 + " 0", "long " + "9" * 60 + " 60", "long 0 60", "long -1000000 0"):
                self.refused(desk, f"seen {new} {row}", TooGreat)
        desk = desk_with(97, f="0,-1", k="7")
        self.assertEqual(desk.say("seen new f 0 30"), "ok")
        self.assertEqual(desk.say("show new"), f"0,-{97 ** 30}")
        self.refused(desk, "seen new f 0 31", TooGreat)

    def test_nothing_is_changed(self):
        desk = desk_with(3, f="1,2", g="3,4")
        for row, kind in (("poly f x", NoText), ("poly f 1,2,", NoText), ("times f f q", NoName), ("slope g q", NoName),
                          ("seen f g 1 61", TooDeep), ("seen f g x 1", NoText), ("drop q", NoName), ("drop f g", NoRow),
                          ("poly f", NoRow), ("poly f 1 1", NoRow), ("seen f g " + "9" * 60 + " 60", TooGreat)):
            self.refused(desk, row, kind)
        self.assertEqual(what_stands(desk), {"f": "1,2", "g": "3,4"})


class Apart(unittest.TestCase):
    """Points 2 and 26: what one desk is told changes no other one; the same asked again is answered the same."""

    def test_two_desks_side_by_side(self):
        one, other, third = Desk(2), Desk(2), Desk(97)
        one.say("poly f -17,0,1")
        self.assertEqual((other.say("names"), third.say("names")), ("", ""))
        self.assertRaises(NoName, other.say, "show f")
        other.say("poly f 1,1")
        third.say("poly f -97,1")
        third.say("poly g 5")
        self.assertEqual([desk.say("show f") for desk in (one, other, third)], ["-17,0,1", "1,1", "-97,1"])
        self.assertEqual([desk.say("names") for desk in (one, other, third)], ["f", "f", "f g"])
        self.assertEqual([desk.say("count f 3") for desk in (one, other, third)], ["4", "1", "1"])
        self.assertEqual([desk.say("border f") for desk in (one, other, third)], ["2:0", "1:0", "1:-1"])
        other.say("drop f")
        self.assertRaises(TooGreat, third.say, "seen f f " + "9" * 60 + " 60")
        self.assertEqual([desk.say("names") for desk in (one, other, third)], ["f", "", "f g"])
        self.assertEqual(one.say("roots f 5"), "9 23")
        self.assertEqual(Desk(2).say("names"), "")

    def test_asked_again(self):
        for p in PRIMES:
            desk = desk_with(p, f="-6,11,-6,1", g="0,1", h="1,1", k="0,1,1")
            rows = ("names", "show f", "solve f 9", "count f 9", "single f 2", "root f 2 60", "roots f 9", "border k",
                    "small 7 60 9", "parts k g h 60")
            first = [desk.say(row) for row in rows]
            for row in ("roots f", "show q", "border x", "solve f 61", "parts k g g 1"):
                self.assertRaises(RestError, desk.say, row)
            self.assertEqual([desk.say(row) for row in rows], first)
            self.assertEqual([desk.say(row) for row in reversed(rows)], first[::-1])

    def test_what_the_functions_are_asked_changes_no_desk(self):
        desk = desk_with(7, f="-2,0,1")
        f = [-2, 0, 1]
        endless_roots(7, f, 5).clear()
        solving_balls(7, f, 5).clear()
        slope_of(f).clear()
        f[0] = 100
        self.assertEqual(desk.say("show f"), "-2,0,1")
        self.assertEqual(desk.say("roots f 2"), "10 39")


if __name__ == "__main__":
    unittest.main()
