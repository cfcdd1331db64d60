"""Charts made from charts, and charts compared [23]."""

import itertools
import unittest

from surehollows.bounds import Bounds
from surehollows.charts import Chart
from surehollows.errors import NotBounds, NotChart, UnknownPlace
from tests.helper import MOST, SomeObject, bounds, look, many_names, odd_values, raised, sample


class TestWithBounds(unittest.TestCase):

    def test_one_place_differs(self):
        chart = sample()
        before = look(chart)
        for name in chart.names():
            changed = chart.with_bounds(name, bounds("77..99"))
            self.assertIsInstance(changed, Chart)
            texts = {**before[1], name: "77..99"}
            self.assertEqual(look(changed), (before[0], texts, *before[2:]))
            self.assertIs(changed == chart, False)
            self.assertEqual(look(chart), before)
            self.assertIs(changed.with_bounds(name, chart[name]) == chart, True)

    def test_equal_bounds(self):
        self.assertIs(sample().with_bounds("a", bounds("0..1")) == sample(), True)
        self.assertIs(sample().with_bounds(bounds=bounds("0..1"), name="a") == sample(), True)

    def test_errors(self):
        chart = sample()
        before = look(chart)
        for value in [*odd_values(), "f", "z", 0, bounds("0"), chart]:
            self.assertIs(raised(self, UnknownPlace, chart.with_bounds, value, bounds("0")).name, value)
            self.assertIs(raised(self, UnknownPlace, chart.with_bounds, value, None).name, value)
        for value in [*odd_values(), 3, "3..5", (3, 5), [3, 5], "a", chart]:
            self.assertIs(raised(self, NotBounds, chart.with_bounds, "a", value).value, value)
        self.assertEqual(raised(self, UnknownPlace, Chart({}).with_bounds, "a", bounds("0")).name, "a")
        self.assertEqual(look(chart), before)


class TestTurned(unittest.TestCase):

    def test_turned(self):
        chart = sample()
        before = look(chart)
        turned = chart.turned(outlets=("d", "b", "d"))
        self.assertIsInstance(turned, Chart)
        texts = {"a": "-1..0", "b": "2..9", "c": "-5", "d": "-7..4", "e": "-4..-3"}
        self.assertEqual(look(turned), (before[0], texts, before[2], ["b", "d"], *before[4:]))
        self.assertEqual(look(chart), before)

    def test_no_outlets_given(self):
        self.assertEqual(sample().turned().outlets(), [])
        self.assertIs(sample().turned() == sample().turned(outlets=[]), True)
        self.assertIs(Chart({}).turned() == Chart({}), True)

    def test_turned_twice(self):
        highest = Chart({"a": Bounds(-MOST, MOST), "b": Bounds(MOST, MOST)}, [("a", "b")], outlets=["b"])
        for chart in [Chart({}), sample(), highest, Chart({name: bounds("-3..5") for name in many_names(60)})]:
            for between in [[], chart.outlets(), chart.names()]:
                self.assertIs(chart.turned(outlets=between).turned(outlets=chart.outlets()) == chart, True)

    def test_errors(self):
        chart = sample()
        for outlets in [None, True, 0, "", "a", {}, {"a": 1}, bounds("0"), chart, SomeObject()]:
            self.assertIs(raised(self, UnknownPlace, chart.turned, outlets=outlets).name, outlets)
        for item in [*odd_values(), 0, "z", bounds("0"), chart]:
            for outlets in [[item], ("a", item, "z", None)]:
                self.assertIs(raised(self, UnknownPlace, chart.turned, outlets=outlets).name, item)
        with self.assertRaises(TypeError):
            chart.turned(["a"])

    def test_what_is_passed_in_stays(self):
        outlets = ["d", "b", "d"]
        turned = sample().turned(outlets=outlets)
        self.assertEqual(outlets, ["d", "b", "d"])
        outlets.clear()
        self.assertEqual(turned.outlets(), ["b", "d"])


class TestNarrower(unittest.TestCase):

    def test_bounds_of_one_place(self):
        pairs = [(low, high) for low in range(-1, 3) for high in range(low, 3)]
        for one, other in itertools.product(pairs, pairs):
            inside = other[0] <= one[0] and one[1] <= other[1]
            left, right = sample().with_bounds("d", Bounds(*one)), sample().with_bounds("d", Bounds(*other))
            self.assertIs(left.narrower(right), inside, (one, other))

    def test_each_place_counts(self):
        chart = sample()
        for name in chart.names():
            wider = chart.with_bounds(name, bounds("-50..50"))
            self.assertEqual((chart.narrower(wider), wider.narrower(chart)), (True, False))
        mixed = chart.with_bounds("a", bounds("-50..50")).with_bounds("d", bounds("0"))
        self.assertEqual((chart.narrower(mixed), mixed.narrower(chart)), (False, False))

    def test_same_chart(self):
        for chart in [Chart({}), sample()]:
            self.assertIs(chart.narrower(chart), True)
            self.assertIs(chart.narrower(other=chart.with_bounds("a", chart["a"]) if "a" in chart else chart), True)

    def test_other_names_ties_or_outlets(self):
        inner, outer = {"a": bounds("1"), "b": bounds("1")}, {"a": bounds("0..2"), "b": bounds("0..2")}
        chart = Chart(inner, [("a", "b")], outlets=["a"])
        self.assertIs(chart.narrower(Chart(outer, [("a", "b")], outlets=["a"])), True)
        for other in [
            Chart({}), Chart({"a": bounds("0..2")}, outlets=["a"]),
            Chart({**outer, "c": bounds("0..2")}, [("a", "b")], outlets=["a"]),
            Chart({"a": bounds("0..2"), "c": bounds("0..2")}, [("a", "c")], outlets=["a"]),
            Chart(outer, [], outlets=["a"]), Chart(outer, [("a", "b")]), Chart(outer, [("a", "b")], outlets=["b"]),
            Chart(outer, [("a", "b")], outlets=["a", "b"]),
        ]:
            self.assertIs(chart.narrower(other), False)
            self.assertIs(other.narrower(chart), False)

    def test_places_without_ties_count(self):
        one = Chart({"a": bounds("0")})
        self.assertIs(one.narrower(Chart({"a": bounds("0"), "b": bounds("0")})), False)
        self.assertIs(one.narrower(Chart({"b": bounds("0")})), False)

    def test_errors(self):
        for chart in [Chart({}), sample()]:
            for value in [*odd_values(), {}, 0, "a", bounds("0"), chart.names()]:
                self.assertIs(raised(self, NotChart, chart.narrower, value).value, value)


if __name__ == "__main__":
    unittest.main()
