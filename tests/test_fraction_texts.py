"""Promise 3: fractions written as texts, and read from them."""

import itertools
import unittest
from math import gcd

from royaltree.errors import BadFraction
from royaltree.fractions import fraction_in, fraction_text

GREATEST = 10 ** 1000 - 1
WRITTEN = (
    ((0, 1), "0"), ((1, 1), "1"), ((-1, 1), "-1"), ((10, 1), "10"), ((-120, 1), "-120"),
    ((1, 2), "1/2"), ((-1, 2), "-1/2"), ((3, 10), "3/10"), ((100, 7), "100/7"), ((-61, 60), "-61/60"),
    ((GREATEST, 1), "9" * 1000), ((-GREATEST, 1), "-" + "9" * 1000),
    ((1, GREATEST), "1/" + "9" * 1000), ((-GREATEST, 10 ** 999), "-" + "9" * 1000 + "/1" + "0" * 999),
)


class TestFractionText(unittest.TestCase):
    def test_how_fractions_are_written(self):
        for one, text in WRITTEN:
            self.assertEqual(fraction_text(one), text)

    def test_numbers_somewhat_longer_are_written_too(self):
        self.assertEqual(fraction_text((10 ** 1200, 7)), "1" + "0" * 1200 + "/7")


class TestFractionIn(unittest.TestCase):
    def refused(self, text):
        with self.subTest(text=text[:40], signs=len(text)):
            with self.assertRaises(BadFraction):
                fraction_in(text)

    def test_how_fractions_are_read(self):
        for one, text in WRITTEN:
            told = fraction_in(text)
            self.assertIs(type(told), tuple)
            self.assertEqual([type(number) for number in told], [int, int])
            self.assertEqual(told, one)

    def test_what_is_written_is_read_again(self):
        for top in range(-40, 41):
            for below in range(1, 41):
                if gcd(top, below) == 1:
                    self.assertEqual(fraction_in(fraction_text((top, below))), (top, below))

    def test_the_named_ones(self):
        for text in ("3/1", "0/5", "2/4", "-0", "+1", "01"):
            self.refused(text)

    def test_longer_numbers(self):
        for text in ("1" + "0" * 1000, "-1" + "0" * 1000, "1/1" + "0" * 1000, "-1/1" + "0" * 1000,
                     "1" + "0" * 1000 + "/7", "9" * 4301, "1/" + "9" * 5000, "7" * 100000,
                     "0" * 1001, "0" * 1000 + "1", "1/" + "0" * 1000 + "3"):
            self.refused(text)

    def test_a_number_ahead_of_which_noughts_stand(self):
        for text in ("00", "-01", "-00", "1/02", "01/2", "-01/2", "1/01", "0/1", "-0/1", "0" * 999 + "1"):
            self.refused(text)

    def test_common_divisors(self):
        for text in ("-2/4", "60/60", "1/1", "-1/1", "10/5", "3/9", "9" * 1000 + "/" + "9" * 1000,
                     "2" + "0" * 500 + "/6"):
            self.refused(text)

    def test_the_empty_text_and_blanks(self):
        for text in ("", " ", "\n", " 1", "1 ", "1\n", "\t1", "- 1", "1 /2", "1/ 2", "1/2 ", " 1/2", "1/2\n", "1 2",
                     "1\u00a0", "\u20031/2"):
            self.refused(text)

    def test_signs_left_out_twice_or_out_of_place(self):
        for text in ("-", "/", "1/", "/2", "-/2", "1//2", "1/2/3", "1/2/", "--1", "1-", "1-/2", "1/2-", "-1-", "-/",
                     "--1/2", "-+1", "+-1", "++1", "+1/2", "1/+2", "1-2", "/1/2", "+", "+0", "-1/-2"):
            self.refused(text)

    def test_a_below_of_nought_or_less(self):
        for text in ("1/0", "0/0", "-1/0", "1/00", "1/-2", "-3/-4", "0/-1", "1/-0", "5/-1"):
            self.refused(text)

    def test_other_signs(self):
        for text in ("a", "1a", "x/2", "1/x", "1_000", "1_0/3", "1,000", "1.5", "1.0", "1e3", "0x10", "1\\2", "1:2",
                     "(1, 2)", "None", "True", "\u0663", "1/\u0663", "\u00b2", "\u00bd", "\u22121", "1\u20442",
                     "\uff11", "\x00", "1\x00", "1/2;"):
            self.refused(text)

    def test_every_short_text_is_read_just_where_it_is_written_so(self):
        # Of at most four signs: whole ones from -999 to 9999, and such of tops and belows from -99 to 99.
        written = {str(top): (top, 1) for top in range(-999, 10000)}
        for top in range(-99, 100):
            for below in range(2, 100):
                if gcd(top, below) == 1:
                    written[f"{top}/{below}"] = (top, below)
        for many in range(5):
            for signs in itertools.product("0123-/+ ", repeat=many):
                text = "".join(signs)
                if text in written:
                    self.assertEqual(fraction_in(text), written[text])
                else:
                    self.refused(text)


if __name__ == "__main__":
    unittest.main()
