"""Lands [4], [31], [32]."""

import itertools
import unittest

from surehollows.charts import Chart
from surehollows.errors import InvalidHeight, InvalidHeights, NotChart, OutOfBounds, UnknownPlace
from surehollows.lands import Land
from tests.helper import (
    MOST, SomeObject, bounds, chart_of, check_fresh, line_of, long_line, look, no_charts, no_heights, no_places,
    odd_values, raised, refused, sample
)


def sample_land():
    return Land(sample(), {"e": 3, "a": 1, "c": 5, "d": -4, "b": -5})


class TestLands(unittest.TestCase):

    def test_no_place(self):
        land = Land(Chart({}), {})
        self.assertEqual((land.heights(), len(land.pinned())), ({}, 0))
        raised(self, UnknownPlace, land, "a")

    def test_heights(self):
        land = sample_land()
        self.assertEqual(list(land.heights().items()), [("a", 1), ("b", -5), ("c", 5), ("d", -4), ("e", 3)])
        self.assertIs(type(land.heights()), dict)
        self.assertEqual([land(name) for name in "abcde"], [1, -5, 5, -4, 3])
        self.assertEqual(land(name="d"), -4)

    def test_the_chart(self):
        chart = sample()
        self.assertIs(Land(chart, sample_land().heights()).chart, chart)
        self.assertEqual(look(sample_land().chart), look(sample()))

    def test_by_name(self):
        land = Land(heights={"a": 2}, chart=chart_of({"a": "1..3"}))
        self.assertEqual(land("a"), 2)

    def test_heights_are_new_on_every_call(self):
        land = sample_land()
        check_fresh(self, land.heights)
        land.heights()["a"] = 0
        self.assertEqual(land("a"), 1)

    def test_a_dict_that_is_changed_afterwards(self):
        heights = {"a": 1, "b": 2}
        land = Land(chart_of({"a": "0..5", "b": "2"}), heights)
        heights["a"] = 5
        del heights["b"]
        heights["c"] = 0
        self.assertEqual(land.heights(), {"a": 1, "b": 2})
        self.assertEqual((land("a"), land("b")), (1, 2))

    def test_arguments_stay(self):
        heights = {"b": 2, "a": 1}
        Land(chart_of({"a": "0..5", "b": "2"}), heights)
        self.assertEqual(list(heights.items()), [("b", 2), ("a", 1)])

    def test_all_heights_within_the_bounds(self):
        chart = chart_of({"a": "-1..1", "b": "3", "c": "0..2"})
        for a, b, c in itertools.product(range(-2, 3), range(2, 5), range(-1, 4)):
            heights = {"c": c, "b": b, "a": a}
            wrong = [name for name in "abc" if heights[name] not in chart[name]]
            if wrong:
                error = raised(self, OutOfBounds, Land, chart, heights)
                self.assertEqual((error.name, error.height), (wrong[0], heights[wrong[0]]))
            else:
                self.assertEqual(Land(chart, heights).heights(), heights)

    def test_the_greatest_heights(self):
        chart = chart_of({"a": f"{-MOST}..{MOST}"})
        for height in [MOST, -MOST, 0]:
            self.assertEqual(Land(chart, {"a": height})("a"), height)
        for height in [MOST + 1, -MOST - 1, 10 ** 29]:
            self.assertIs(raised(self, OutOfBounds, Land, chart, {"a": height}).height, height)

    def test_pinned(self):
        chart = sample_land().pinned()
        self.assertEqual(look(chart), look(Chart(
            {name: bounds(text) for name, text in [("a", "1"), ("b", "-5"), ("c", "5"), ("d", "-4"), ("e", "3")]},
            sample().ties(), outlets=sample().outlets())))
        self.assertEqual(look(sample_land().chart), look(sample()))

    def test_unknown_places(self):
        land = sample_land()
        refused(self, UnknownPlace, land, no_places())
        refused(self, UnknownPlace, land, ["f", "aa", land])


class TestEquality(unittest.TestCase):

    def test_equal_lands(self):
        self.assertIs(sample_land() == sample_land(), True)
        self.assertIs(sample_land() != sample_land(), False)
        self.assertIs(Land(Chart({}), {}) == Land.lowest(Chart({})), True)
        self.assertIs(Land.lowest(sample()) == Land.clipped(sample(), -9), True)

    def test_unlike_lands(self):
        texts = {"a": "0..1", "b": "2", "c": "0..1"}
        charts = [
            chart_of(texts, "ab"), chart_of(texts, "ab bc"), chart_of(texts, "bc"), chart_of(texts, "ab", "a"),
            chart_of(texts, "ab", "b"), chart_of({**texts, "b": "2..3"}, "ab"), chart_of({**texts, "b": "1..2"}, "ab"),
            chart_of({**texts, "c": "0..2"}, "ab"),
        ]
        lands = [Land(chart, {"a": 0, "b": 2, "c": 1}) for chart in charts]
        lands += [Land(charts[0], {"a": 1, "b": 2, "c": 1}), Land(charts[0], {"a": 0, "b": 2, "c": 0})]
        lands += [Land(chart_of({"a": "0..1", "b": "2"}, "ab"), {"a": 0, "b": 2}), Land(Chart({}), {})]
        for (k, one), (m, other) in itertools.product(enumerate(lands), enumerate(lands)):
            self.assertIs(one == other, k == m, (k, m))
            self.assertIs(one != other, k != m, (k, m))

    def test_other_values(self):
        land = sample_land()
        values = [*odd_values(), 0, land.heights(), land.chart, land.pinned(), bounds("0"), look(sample()), (land,)]
        for value in values:
            self.assertIs(land == value, False)
            self.assertIs(value == land, False)


class TestWrongArguments(unittest.TestCase):

    def test_no_chart(self):
        refused(self, NotChart, lambda value: Land(value, {}), no_charts())
        refused(self, NotChart, lambda value: Land(value, None), no_charts())

    def test_no_heights_for_the_places(self):
        chart = chart_of({"a": "0..5", "b": "0..5"})
        wrong = [
            {}, {"a": 0}, {"b": 0}, {"a": 0, "b": 0, "c": 0}, {"a": 0, "c": 0}, {"a": 0, "b": 0, 1: 0}, {"a": 0, 1: 0},
            {0: 0, 1: 0}, {"A": 0, "B": 0}, {"a": 9, "c": 0}, {"a": None}, {"a": 0, "bb": 0}, {"c": 1, "d": 2},
        ]
        for value in wrong + [None, True, 0, 5, "ab", [], ["a", "b"], ("a", "b"), [("a", 0), ("b", 0)], chart,
                              Land.lowest(chart), bounds("0"), SomeObject(), ()]:
            self.assertIs(raised(self, InvalidHeights, Land, chart, value).value, value)
        for value in [{"a": 0}, {1: 0}, [], (), "", None, 0]:
            self.assertIs(raised(self, InvalidHeights, Land, Chart({}), value).value, value)

    def test_values_that_are_no_heights(self):
        chart = chart_of({"a": "0..1", "b": "0..1"})
        for value in [*no_heights(), 2, -1]:
            for heights, name in [({"b": value, "a": 0}, "b"), ({"a": value, "b": 0}, "a"), ({"b": value, "a": value}, "a")]:
                error = raised(self, OutOfBounds, Land, chart, heights)
                self.assertEqual(error.name, name)
                self.assertIs(error.height, value)

    def test_the_first_place_by_name(self):
        chart = chart_of({"c": "0", "b": "0", "a": "0"})
        for heights, name in [({"c": 1, "b": 2, "a": 0}, "b"), ({"c": 1, "a": 3, "b": 2}, "a"), ({"c": 1, "b": 0, "a": 0}, "c")]:
            error = raised(self, OutOfBounds, Land, chart, heights)
            self.assertEqual((error.name, error.height), (name, heights[name]))

    def test_keys_ahead_of_heights(self):
        heights = {"a": 9, "c": None}
        self.assertIs(raised(self, InvalidHeights, Land, chart_of({"a": "0", "b": "0"}), heights).value, heights)


class TestMadeLands(unittest.TestCase):

    def test_lowest_and_highest(self):
        self.assertEqual(
            list(Land.lowest(sample()).heights().items()), [("a", 0), ("b", -9), ("c", 5), ("d", -4), ("e", 3)])
        self.assertEqual(
            list(Land.highest(sample()).heights().items()), [("a", 1), ("b", -2), ("c", 5), ("d", 7), ("e", 4)])

    def test_clipped(self):
        chart = line_of("-3..4", "0", "2..6")
        for level, heights in [
            (-MOST, [-3, 0, 2]), (-4, [-3, 0, 2]), (-3, [-3, 0, 2]), (-1, [-1, 0, 2]), (0, [0, 0, 2]), (2, [2, 0, 2]),
            (3, [3, 0, 3]), (4, [4, 0, 4]), (5, [4, 0, 5]), (6, [4, 0, 6]), (7, [4, 0, 6]), (MOST, [4, 0, 6]),
        ]:
            land = Land.clipped(chart, level)
            self.assertEqual(land.heights(), dict(zip("abc", heights)))
            self.assertIs(land.chart, chart)

    def test_of_no_place_and_of_sixty(self):
        for land in [Land.lowest(Chart({})), Land.highest(Chart({})), Land.clipped(Chart({}), 7)]:
            self.assertEqual(land.heights(), {})
        chart, names = long_line()
        self.assertIs(Land.lowest(chart) == Land.highest(chart), True)
        self.assertEqual(Land.clipped(chart, 3)(names[2]), 2)

    def test_by_name(self):
        chart = sample()
        self.assertIs(Land.lowest(chart=chart) == Land.lowest(chart), True)
        self.assertIs(Land.highest(chart=chart) == Land.highest(chart), True)
        self.assertIs(Land.clipped(level=2, chart=chart) == Land.clipped(chart, 2), True)

    def test_the_chart_stays(self):
        chart = sample()
        for make in [Land.lowest, Land.highest, lambda it: Land.clipped(it, 0)]:
            self.assertIs(make(chart).chart, chart)
            self.assertIs(make(chart) == make(chart), True)
            self.assertEqual(look(chart), look(sample()))

    def test_no_chart(self):
        for make in [Land.lowest, Land.highest, lambda it: Land.clipped(it, 0), lambda it: Land.clipped(it, None)]:
            refused(self, NotChart, make, no_charts())

    def test_no_level(self):
        refused(self, InvalidHeight, lambda value: Land.clipped(sample(), value), no_heights())
        refused(self, InvalidHeight, lambda value: Land.clipped(Chart({}), value), no_heights())

    def test_lands_are_lands_of_their_charts(self):
        chart = line_of("-3..4", "0", "2..6")
        for level in range(-5, 9):
            land = Land.clipped(chart, level)
            self.assertTrue(all(land(name) in chart[name] for name in "abc"))


if __name__ == "__main__":
    unittest.main()
