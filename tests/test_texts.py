import itertools
import unittest

from deeprests.errors import NoText
from deeprests.texts import read_number, read_poly, show_poly

NO_TEXTS = (None, True, False, 0, 7, -1, 2.5, b"7", [], ["7"], ("7",), {"7": "7"}, object(), [1, 2], int, "7".split)
# Figures of other writings, small raised ones, and letters and signs that Python reads as part of numbers.
OTHER_SIGNS = ("\u0663", "\u0967", "\uff17", "\u00b2", "\u2460", "\u2212" + "7", "\u00bd", "1_0", "1e3", "0x7", "0b1",
               "0o7", "7L", "1.0", "1/2", "7.", ".7", "seven", "VII", "^", "~", "@")
BLANKS = (" ", "  ", "\t", "\n", "7 ", " 7", "7\n", "\n7", "7\t", "\t7", "- 7", "-7 ", " -7", "1 0", "7\r", "\x0b7",
          "7\x00")
SIGNS = ("-", "+", "--", "+7", "+0", "--7", "-+7", "+-7", "7-", "-7-", "1-2", "7+")
NOUGHTS = ("-0", "00", "000", "-00", "01", "007", "-07", "-007", "0" * 60, "0" * 59 + "1", "0-", "-0-")
LONG = ("1" * 61, "-" + "1" * 61, "9" * 200, "1" + "0" * 60, "-1" + "0" * 60, "0" * 61, "7" * 5000, "7" * 20000)
NUMBERS = (0, 1, -1, 9, -9, 10, -10, 100, 1001, -90909, 123456789012345678901234567890, 10 ** 59, -10 ** 59,
           10 ** 60 - 1, 1 - 10 ** 60, 10 ** 58, 2 ** 199 - 1, -3 ** 120)


def shown(number):
    """Written without Python's own writing of numbers."""
    figures = ""
    left = abs(number)
    while left > 0 or figures == "":
        figures = "0123456789"[left % 10] + figures
        left //= 10
    return ("-" if number < 0 else "") + figures


class Numbers(unittest.TestCase):
    """Point 25."""

    def test_read(self):
        for number in NUMBERS + tuple(range(-120, 120)):
            told = read_number(shown(number))
            with self.subTest(number=number):
                self.assertEqual(told, number)
                self.assertIs(type(told), int)
        self.assertEqual(read_number("0"), 0)
        self.assertEqual(read_number("-5"), -5)
        self.assertEqual(read_number("70"), 70)

    def test_sixty_figures_and_one_more(self):
        for figure in "123456789":
            for sign, times in (("", 1), ("-", -1)):
                self.assertEqual(read_number(sign + figure * 60), times * int(figure) * ((10 ** 60 - 1) // 9))
                with self.subTest(figure=figure, sign=sign), self.assertRaises(NoText):
                    read_number(sign + figure * 61)

    def test_refused(self):
        for text in ("", ",", "7,", ",7", "7,7") + OTHER_SIGNS + BLANKS + SIGNS + NOUGHTS + LONG:
            with self.subTest(text=text[:70]), self.assertRaises(NoText):
                read_number(text)

    def test_what_is_no_text(self):
        for thing in NO_TEXTS:
            with self.subTest(thing=thing), self.assertRaises(NoText):
                read_number(thing)

    def test_against_all_short_texts(self):
        written = {shown(number): number for number in range(-99, 1000)}
        for length in range(4):
            for signs in itertools.product("0129-+ ,", repeat=length):
                text = "".join(signs)
                with self.subTest(text=text):
                    if text in written:
                        self.assertEqual(read_number(text), written[text])
                    else:
                        self.assertRaises(NoText, read_number, text)


class Polynomials(unittest.TestCase):
    """Point 25."""

    def test_read(self):
        self.assertEqual(read_poly("0"), [0])
        self.assertEqual(read_poly("-2,0,1"), [-2, 0, 1])
        self.assertEqual(read_poly("0,0,0"), [0, 0, 0])
        self.assertEqual(read_poly("10,-20"), [10, -20])
        for length in range(1, 14):
            for number in NUMBERS:
                f = [number] * (length - 1) + [length]
                told = read_poly(",".join(shown(one) for one in f))
                self.assertEqual(told, f)
                self.assertIs(type(told), list)
                self.assertEqual([type(one) for one in told], [int] * length)

    def test_thirteen_numbers_and_one_more(self):
        for number in ("0", "-1", "9" * 60):
            self.assertEqual(read_poly(",".join([number] * 13)), [int(number)] * 13)
            for length in (14, 15, 26, 60, 300):
                with self.subTest(number=number, length=length), self.assertRaises(NoText):
                    read_poly(",".join([number] * length))

    def test_commas(self):
        for text in (",", ",,", "7,", ",7", "7,7,", ",7,7", "7,,7", "7,-", "7;7", "7.7", "7 7", "7, 7", "7 ,7",
                     "[7,7]", "(7,7)", "7,7\n", "," * 12, "1," * 12, "," + ",".join("1" * 12)):
            with self.subTest(text=text), self.assertRaises(NoText):
                read_poly(text)

    def test_refused_at_each_place(self):
        for text in ("",) + OTHER_SIGNS + BLANKS + SIGNS + NOUGHTS + LONG:
            for words in ([text], [text, "1"], ["1", text], ["1", text, "1"], ["0"] * 12 + [text]):
                with self.subTest(text=text[:70], count=len(words)), self.assertRaises(NoText):
                    read_poly(",".join(words))

    def test_what_is_no_text(self):
        for thing in NO_TEXTS:
            with self.subTest(thing=thing), self.assertRaises(NoText):
                read_poly(thing)


class Shown(unittest.TestCase):
    """Point 25: what is written so is read to the same."""

    def test_shown(self):
        self.assertEqual(show_poly([0]), "0")
        self.assertEqual(show_poly([-2, 0, 1]), "-2,0,1")
        self.assertEqual(show_poly([0, 0]), "0,0")
        self.assertEqual(show_poly([10 ** 60 - 1, 1 - 10 ** 60]), "9" * 60 + ",-" + "9" * 60)
        for length in range(1, 14):
            for number in NUMBERS:
                f = [number] * (length - 1) + [-length]
                told = show_poly(f)
                self.assertIs(type(told), str)
                self.assertEqual(told, ",".join(shown(one) for one in f))

    def test_read_to_the_same(self):
        for first, second in itertools.product(NUMBERS, repeat=2):
            for f in ([first], [first, second], [first] * 6 + [second] * 7):
                self.assertEqual(read_poly(show_poly(f)), f)
        for text in ("0", "-1", "0,0", "-2,0,1", ",".join(["-" + "7" * 60] * 13)):
            self.assertEqual(show_poly(read_poly(text)), text)


class AskedAgain(unittest.TestCase):
    """Point 2."""

    def test_behind_a_change_of_what_was_told(self):
        first, second = read_poly("1,2,3"), read_poly("1,2,3")
        self.assertIsNot(first, second)
        first.append(4)
        first[0] = 9
        self.assertEqual(second, [1, 2, 3])
        self.assertEqual(read_poly("1,2,3"), [1, 2, 3])

    def test_the_polynomial_stays_as_it_was(self):
        f = [1, -2, 0]
        show_poly(f)
        self.assertEqual(f, [1, -2, 0])
        f[0] = 5
        self.assertEqual(show_poly(f), "5,-2,0")


if __name__ == "__main__":
    unittest.main()
