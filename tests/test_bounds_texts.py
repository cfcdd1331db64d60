"""Bounds as text [14]."""

import itertools
import unittest

from surehollows.bounds import Bounds
from surehollows.errors import InvalidText
from tests.helper import MOST, odd_values, raised, sample

TEXTS = {
    "3..5": (3, 5), "7": (7, 7), "-2..-1": (-2, -1), "0": (0, 0), "0..1": (0, 1), "-1..0": (-1, 0), "-7": (-7, -7),
    "-3..5": (-3, 5), "9..10": (9, 10), "-10..-9": (-10, -9), "100": (100, 100), "-105..2090": (-105, 2090),
    "1000000000000": (MOST, MOST), "-1000000000000": (-MOST, -MOST),
    "-1000000000000..1000000000000": (-MOST, MOST), "999999999999..1000000000000": (MOST - 1, MOST),
    "-1000000000000..-999999999999": (-MOST, 1 - MOST),
}

NO_TEXTS = [
    "", " ", "\n", ".", "..", "...", "....", "-", "--", "-..-", "+", "a", "a..b",
    "3..3", "-3..-3", "0..0", "1000000000000..1000000000000",
    "5..4", "0..-1", "-1..-2", "10..9", "1000000000000..-1000000000000",
    "03", "00", "007", "-03", "-00", "03..5", "3..05", "00..1", "-01..5", "0000000000000", "0000000000001",
    "-0", "-0..1", "-1..-0", "0..-0", "-0..-0", "-0..0",
    "+3", "+0", "+3..5", "3..+5", "-+3", "+-3", "--3", "3..--5", "--5..3", "3-", "3-5", "-3-",
    " 3", "3 ", "3 ..5", "3.. 5", " 3..5", "3..5 ", "3 .. 5", "- 3", "1 000", "3..5\n", "\n3..5", "3\n", "3\n..5",
    "3.5", "3...5", "3....5", "..5", "3..", "3.", ".3", "3..5..", "..3..5", "3..4..5", "3..5..5", "3..5.", ".3..5",
    "1000000000001", "-1000000000001", "0..1000000000001", "-1000000000001..0", "9999999999999", "10000000000000",
    "9" * 30, "9" * 6000, "-" + "9" * 5999, "1_000", "1e3", "0x1", "3,5", "3:5", "3..5a", "x3",
    "\u0663", "\u00b3", "\uff13..\uff15",
]


class TestText(unittest.TestCase):

    def test_text_of_bounds(self):
        for text, (low, high) in TEXTS.items():
            self.assertEqual(str(Bounds(low, high)), text)
            self.assertIs(type(str(Bounds(low, high))), str)

    def test_from_text(self):
        for text, ends in TEXTS.items():
            one = Bounds.from_text(text)
            self.assertIsInstance(one, Bounds)
            self.assertEqual((one.low, one.high), ends)
            self.assertEqual(str(one), text)
        self.assertTrue(Bounds.from_text(text="3..5") == Bounds(3, 5))

    def test_there_and_back(self):
        ends = [-MOST, 1 - MOST, -1001, -10, -9, -1, 0, 1, 9, 10, 1001, MOST - 1, MOST]
        for low in ends:
            for high in [height for height in ends if height >= low]:
                self.assertTrue(Bounds.from_text(str(Bounds(low, high))) == Bounds(low, high))

    def test_no_texts(self):
        for text in NO_TEXTS:
            self.assertIs(raised(self, InvalidText, Bounds.from_text, text).value, text)

    def test_all_short_texts(self):
        right = [str(low) for low in range(-9999, 100000)]
        right += [f"{low}..{high}" for low in range(-9, 100) for high in range(low + 1, 100)]
        right = set(right)
        for size in range(6):
            for signs in itertools.product("-+. 0129", repeat=size):
                text = "".join(signs)
                if text in right:
                    self.assertEqual(str(Bounds.from_text(text)), text)
                else:
                    self.assertEqual(raised(self, InvalidText, Bounds.from_text, text).value, text)

    def test_no_strings(self):
        for value in [*odd_values(), 3, -3, ["3..5"], ("3..5",), (3, 5), b"3..5", Bounds(3, 5), sample()]:
            self.assertIs(raised(self, InvalidText, Bounds.from_text, value).value, value)


if __name__ == "__main__":
    unittest.main()
