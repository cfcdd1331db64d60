"""Heights and names [2], [12], and bounds [13]."""

import unittest

from surehollows.bounds import MOST_HEIGHT, Bounds, is_height, is_name
from surehollows.errors import Contradiction, InvalidBounds, InvalidHeight
from tests.helper import MOST, SomeObject, odd_values, raised, sample


class TestHeights(unittest.TestCase):

    def test_most_height(self):
        self.assertEqual(MOST_HEIGHT, 1000000000000)

    def test_heights(self):
        for value in [0, 1, -1, 2, -2, 255, MOST - 1, MOST, 1 - MOST, -MOST]:
            self.assertIs(is_height(value), True, value)

    def test_beside_the_ends(self):
        for value in [MOST + 1, -MOST - 1, 10 ** 13, -10 ** 13, 10 ** 29]:
            self.assertIs(is_height(value), False, value)

    def test_other_values(self):
        others = [*odd_values(), "0", "5", "a", [5], (0,), {0: 0}, {}, Bounds(0, 0), sample()]
        for value in others:
            self.assertIs(is_height(value), False, value)
        self.assertIs(is_height(value=7), True)


class TestNames(unittest.TestCase):

    def test_names(self):
        for value in ["a", "z", "m", "ab", "zzz", "abcdefgh", "ijklmnop", "qrstuvwx", "yz", "none", "outlet"]:
            self.assertIs(is_name(value), True, value)

    def test_length(self):
        self.assertIs(is_name(""), False)
        self.assertIs(is_name("aaaaaaaa"), True)
        self.assertIs(is_name("aaaaaaaaa"), False)
        self.assertIs(is_name("a" * 6000), False)

    def test_every_other_sign(self):
        letters = "abcdefghijklmnopqrstuvwxyz"
        for sign in [chr(code) for code in range(128)] + ["\u00e9", "\u00df", "\uff41", "\u0430"]:
            for word in [sign, sign + "b", "b" + sign, "b" + sign + "b", "bbbbbbb" + sign]:
                self.assertIs(is_name(word), sign in letters, repr(word))
        self.assertIs(is_name("\n"), False)
        self.assertIs(is_name("abc\n"), False)

    def test_other_values(self):
        for value in [*odd_values(), 0, 5, ["a"], ("a", "b"), {"a": "b"}, Bounds(0, 0), sample(), b"a"]:
            self.assertIs(is_name(value), False, value)
        self.assertIs(is_name(value="a"), True)


class TestCreation(unittest.TestCase):

    def test_attributes(self):
        for low, high in [(0, 0), (3, 5), (-2, -1), (-MOST, MOST), (MOST, MOST), (-MOST, -MOST), (-1, 0)]:
            one = Bounds(low, high)
            self.assertEqual((one.low, one.high, one.width), (low, high, high - low))
            self.assertEqual(vars(one), vars(Bounds(high=high, low=low)))

    def test_no_heights(self):
        for value in [*odd_values(), "5", Bounds(0, 1), sample()]:
            self.assertIs(raised(self, InvalidHeight, Bounds, value, 5).value, value)
            self.assertIs(raised(self, InvalidHeight, Bounds, 5, value).value, value)
            self.assertIs(raised(self, InvalidHeight, Bounds, high=value, low=-3).value, value)

    def test_wrong_order(self):
        for low, high in [(5, 4), (1, 0), (0, -1), (MOST, -MOST), (MOST, MOST - 1)]:
            error = raised(self, InvalidBounds, Bounds, low, high)
            self.assertEqual((error.low, error.high), (low, high))

    def test_low_is_checked_first(self):
        self.assertEqual(raised(self, InvalidHeight, Bounds, MOST + 1, -MOST - 1).value, MOST + 1)
        self.assertEqual(raised(self, InvalidHeight, Bounds, "x", None).value, "x")
        self.assertIs(raised(self, InvalidHeight, Bounds, True, False).value, True)

    def test_heights_are_checked_before_their_order(self):
        self.assertEqual(raised(self, InvalidHeight, Bounds, MOST + 1, 0).value, MOST + 1)
        self.assertEqual(raised(self, InvalidHeight, Bounds, 0, -MOST - 1).value, -MOST - 1)

    def test_exact(self):
        for height in [0, 7, -7, MOST, -MOST]:
            one = Bounds.exact(height)
            self.assertIsInstance(one, Bounds)
            self.assertEqual((one.low, one.high, one.width), (height, height, 0))
        self.assertTrue(Bounds.exact(height=3) == Bounds(3, 3))
        for value in [*odd_values(), "5"]:
            self.assertIs(raised(self, InvalidHeight, Bounds.exact, value).value, value)


class TestQuestions(unittest.TestCase):

    def test_contains(self):
        for low, high in [(3, 5), (0, 0), (-2, 2), (MOST - 1, MOST), (-MOST, 1 - MOST)]:
            for value in [*range(-4, 8), MOST - 2, MOST - 1, MOST, -MOST, 1 - MOST, 2 - MOST]:
                self.assertIs(value in Bounds(low, high), low <= value <= high)

    def test_contains_no_other_values(self):
        for value in [*odd_values(), "0", [0], Bounds(0, 0), sample()]:
            self.assertIs(value in Bounds(-MOST, MOST), False, value)

    def test_equality(self):
        pairs = [(low, high) for low in range(-2, 3) for high in range(low, 3)]
        for one in pairs:
            for other in pairs:
                self.assertIs(Bounds(*one) == Bounds(*other), one == other)
                self.assertIs(Bounds(*one) != Bounds(*other), one != other)

    def test_equality_with_other_values(self):
        for value in [*odd_values(), 3, "3", (3, 3), [3, 3], {"low": 3, "high": 3}, sample(), SomeObject()]:
            self.assertIs(Bounds(3, 3) == value, False, value)
            self.assertIs(value == Bounds(3, 3), False, value)

    def test_holds(self):
        pairs = [(low, high) for low in range(-2, 3) for high in range(low, 3)]
        for one in pairs:
            for other in pairs:
                inside = all(one[0] <= height <= one[1] for height in range(other[0], other[1] + 1))
                self.assertIs(Bounds(*one).holds(Bounds(*other)), inside, (one, other))
        self.assertIs(Bounds(0, 9).holds(other=Bounds(0, 9)), True)


class TestNewBounds(unittest.TestCase):

    def test_common_heights(self):
        pairs = [(low, high) for low in range(-2, 4) for high in range(low, 4)]
        for one in pairs:
            for other in pairs:
                common = [height for height in range(-2, 4) if height in Bounds(*one) and height in Bounds(*other)]
                if common:
                    both = Bounds(*one) & Bounds(*other)
                    self.assertIsInstance(both, Bounds)
                    self.assertEqual((both.low, both.high), (common[0], common[-1]))
                else:
                    with self.assertRaises(Contradiction):
                        Bounds(*one) & Bounds(*other)

    def test_contradiction_keeps_the_bounds(self):
        for one, other in [(Bounds(0, 3), Bounds(4, 9)), (Bounds(4, 9), Bounds(0, 3)), (Bounds(1, 1), Bounds(2, 2))]:
            error = raised(self, Contradiction, lambda left, right: left & right, one, other)
            self.assertIs(error.one, one)
            self.assertIs(error.other, other)

    def test_negated(self):
        for low, high in [(-2, 5), (0, 0), (3, 5), (-9, -4), (-MOST, MOST), (MOST, MOST)]:
            turned = -Bounds(low, high)
            self.assertIsInstance(turned, Bounds)
            self.assertEqual((turned.low, turned.high), (-high, -low))
            self.assertTrue(-turned == Bounds(low, high))

    def test_nothing_changes(self):
        one, other = Bounds(3, 8), Bounds(5, 12)
        for _ in range(2):
            self.assertEqual(str(one & other), "5..8")
            self.assertEqual(str(-one), "-8..-3")
            self.assertEqual((4 in one, one == other, one.holds(other), one.width), (True, False, False, 5))
            raised(self, Contradiction, lambda: one & Bounds(0, 1))
            self.assertEqual((one.low, one.high, other.low, other.high), (3, 8, 5, 12))
            self.assertEqual((str(one), str(other)), ("3..8", "5..12"))

    def test_width_is_a_property_alone(self):
        with self.assertRaises(AttributeError):
            Bounds(3, 5).width = 4


if __name__ == "__main__":
    unittest.main()
