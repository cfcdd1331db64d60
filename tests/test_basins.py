"""Basins, closed counts, hollows and depths of lands [5], [6], [33] to [36]."""

import unittest

from surehollows.charts import Chart
from surehollows.errors import InvalidDepth, InvalidHeight, InvalidLevels, NotLand, UnknownPlace
from surehollows.lands import Land, basin, basins, closed_count, deeper, depths, hollows
from tests import reference
from tests.helper import (
    MOST, chart_of, check_fresh, level_pairs, levels_around, line_of, long_line, no_depths, no_heights, no_lands,
    no_places, raised, refused, sample, some_charts, some_lands
)


def land_of(*heights, outlets=""):
    """A land whose places a, b, .. lie in one line."""
    return Land.lowest(line_of(*[str(height) for height in heights], outlets=outlets))


def many_lands():
    """Some lands of many small charts."""
    for seed, chart in enumerate(some_charts(150, 2, most=5)):
        for land in some_lands(chart, 4, seed):
            yield land


class TestBasins(unittest.TestCase):

    def test_levels_of_a_line(self):
        land = land_of(0, 3, 1, 3, 1)
        for level, parts in [
            (-MOST, []), (-1, []), (0, [["a"]]), (1, [["a"], ["c"], ["e"]]), (2, [["a"], ["c"], ["e"]]),
            (3, [list("abcde")]), (4, [list("abcde")]), (MOST, [list("abcde")]),
        ]:
            self.assertEqual(basins(land, level), parts)
            for name in "abcde":
                self.assertEqual(basin(land, name, level), next((part for part in parts if name in part), []))

    def test_a_place_that_is_higher(self):
        land = land_of(0, 3, 1)
        self.assertEqual(basin(land, "b", 2), [])
        self.assertEqual(basin(land, "b", 3), ["a", "b", "c"])
        self.assertEqual(basin(land, "c", 0), [])

    def test_orders(self):
        names = ["z", "aa", "b", "ab", "a"]
        chart = Chart({name: sample()["c"] for name in names}, [("z", "a"), ("ab", "b"), ("b", "aa")])
        land = Land.lowest(chart)
        self.assertEqual(basins(land, 5), [["a", "z"], ["aa", "ab", "b"]])
        self.assertEqual(basin(land, "z", 5), ["a", "z"])
        self.assertEqual(basin(land, "b", 6), ["aa", "ab", "b"])

    def test_by_the_definition(self):
        for land in many_lands():
            heights = land.heights()
            for level in levels_around():
                parts = reference.parts(land.chart, [name for name in heights if heights[name] <= level])
                self.assertEqual(basins(land, level), parts)
                for name in heights:
                    self.assertEqual(basin(land, name, level), next((part for part in parts if name in part), []))

    def test_no_place(self):
        land = Land(Chart({}), {})
        self.assertEqual(basins(land, 0), [])
        raised(self, UnknownPlace, basin, land, "a", 0)

    def test_outlets_play_no_role(self):
        self.assertEqual(basins(land_of(0, 3, 1, outlets="ac"), 2), [["a"], ["c"]])

    def test_by_name(self):
        land = land_of(0, 3, 1)
        self.assertEqual(basin(level=0, name="a", land=land), ["a"])
        self.assertEqual(basins(level=0, land=land), [["a"]])

    def test_lists_that_are_changed_afterwards(self):
        land = land_of(0, 3, 1, 2)
        check_fresh(self, lambda: basin(land, "c", 2))
        check_fresh(self, lambda: basins(land, 2))
        self.assertEqual(land.heights(), {"a": 0, "b": 3, "c": 1, "d": 2})

    def test_errors(self):
        land = land_of(0, 3, 1)
        refused(self, NotLand, lambda value: basin(value, "a", 0), no_lands())
        refused(self, NotLand, lambda value: basin(value, None, None), no_lands())
        refused(self, NotLand, lambda value: basins(value, 0), no_lands())
        refused(self, NotLand, lambda value: basins(value, None), no_lands())
        refused(self, UnknownPlace, lambda value: basin(land, value, 0), no_places())
        refused(self, UnknownPlace, lambda value: basin(land, value, None), no_places())
        refused(self, InvalidHeight, lambda value: basin(land, "a", value), no_heights())
        refused(self, InvalidHeight, lambda value: basins(land, value), no_heights())


class TestClosedCounts(unittest.TestCase):

    def test_a_line(self):
        land = land_of(0, 3, 1)
        for low, high, count in [
            (-1, -1, 0), (-1, 5, 0), (0, 0, 1), (0, 1, 1), (0, 2, 1), (0, 3, 1), (1, 1, 2), (1, 2, 2), (1, 3, 1),
            (2, 2, 2), (3, 3, 1), (2, MOST, 1), (-MOST, MOST, 0), (MOST, MOST, 1), (-MOST, -MOST, 0),
        ]:
            self.assertEqual(closed_count(land, low, high), count, (low, high))
            self.assertIs(type(closed_count(land, low, high)), int)

    def test_outlets(self):
        land = land_of(0, 3, 1, outlets="a")
        for low, high, count in [(0, 0, 0), (1, 1, 1), (0, 1, 0), (1, 2, 1), (1, 3, 0), (5, 5, 0)]:
            self.assertEqual(closed_count(land, low, high), count, (low, high))
        self.assertEqual(closed_count(land_of(0, 3, 1, outlets="b"), 1, 2), 2)
        self.assertEqual(closed_count(land_of(0, 3, 1, outlets="b"), 1, 3), 0)

    def test_by_the_definition(self):
        for land in many_lands():
            heights = land.heights()
            for low, high in level_pairs():
                self.assertEqual(
                    closed_count(land, low, high), len(reference.closed_at(land.chart, heights, heights, low, high)))

    def test_no_place(self):
        self.assertEqual(closed_count(Land(Chart({}), {}), 0, 0), 0)

    def test_by_name(self):
        self.assertEqual(closed_count(high=2, low=1, land=land_of(0, 3, 1)), 2)

    def test_errors(self):
        land = land_of(0, 3, 1)
        refused(self, NotLand, lambda value: closed_count(value, 0, 0), no_lands())
        refused(self, NotLand, lambda value: closed_count(value, 1, 0), no_lands())
        refused(self, NotLand, lambda value: closed_count(value, None, None), no_lands())
        refused(self, InvalidHeight, lambda value: closed_count(land, value, 0), no_heights())
        refused(self, InvalidHeight, lambda value: closed_count(land, value, ()), no_heights())
        refused(self, InvalidHeight, lambda value: closed_count(land, 0, value), no_heights())
        for low, high in [(1, 0), (0, -1), (MOST, -MOST), (3, 2)]:
            error = raised(self, InvalidLevels, closed_count, land, low, high)
            self.assertEqual((error.low, error.high), (low, high))


class TestHollows(unittest.TestCase):

    def test_examples_of_the_point(self):
        self.assertEqual(hollows(land_of(0, 3, 1)), [("a", 0, None), ("c", 1, 3)])
        self.assertEqual(hollows(land_of(0, 3, 1, outlets="a")), [("c", 1, 3)])

    def test_equal_heights(self):
        self.assertEqual(hollows(land_of(1, 3, 1)), [("a", 1, None), ("c", 1, 3)])
        self.assertEqual(hollows(land_of(2, 2, 2)), [("a", 2, None)])
        self.assertEqual(hollows(land_of(3, 1, 1, 3, 1)), [("b", 1, None), ("e", 1, 3)])
        texts = {"b": "1", "c": "5", "a": "1"}
        self.assertEqual(hollows(Land.lowest(chart_of(texts, "bc ca"))), [("a", 1, None), ("b", 1, 5)])

    def test_outlets(self):
        self.assertEqual(hollows(land_of(0, 3, 1, outlets="abc")), [])
        self.assertEqual(hollows(land_of(0, 3, 1, outlets="b")), [("a", 0, 3), ("c", 1, 3)])
        self.assertEqual(hollows(land_of(2, 2, outlets="b")), [])
        self.assertEqual(hollows(land_of(0, 1, outlets="b")), [("a", 0, 1)])
        self.assertEqual(hollows(land_of(1, 0, outlets="b")), [])

    def test_several_parts(self):
        chart = chart_of({"d": "0", "c": "4", "b": "0", "a": "7", "e": "3", "f": "-2"}, "bc ef", "e")
        self.assertEqual(hollows(Land.lowest(chart)), [("f", -2, 3), ("b", 0, None), ("d", 0, None), ("a", 7, None)])

    def test_no_place(self):
        land = Land(Chart({}), {})
        self.assertEqual((hollows(land), depths(land), deeper(land, 0)), ([], [], 0))

    def test_one_place(self):
        self.assertEqual(hollows(land_of(5)), [("a", 5, None)])
        self.assertEqual(hollows(land_of(5, outlets="a")), [])

    def test_order_by_birth_and_bottom(self):
        self.assertEqual(
            hollows(land_of(2, 9, 1, 9, 2, 9, 1, 9, 0)),
            [("i", 0, None), ("c", 1, 9), ("g", 1, 9), ("a", 2, 9), ("e", 2, 9)])

    def test_by_the_definition(self):
        for land in many_lands():
            heights = land.heights()
            found = hollows(land)
            self.assertEqual(found, reference.hollows(land.chart, heights, heights))
            self.assertTrue(all(death is None or death > birth for _, birth, death in found))

    def test_closed_counts(self):
        for land in many_lands():
            found = hollows(land)
            for low, high in level_pairs():
                self.assertEqual(closed_count(land, low, high), reference.living(found, low, high))

    def test_kinds(self):
        found = hollows(land_of(0, 3, 1))
        self.assertIs(type(found), list)
        self.assertTrue(all(type(item) is tuple for item in found))

    def test_lists_that_are_changed_afterwards(self):
        land = land_of(0, 3, 1)
        check_fresh(self, lambda: hollows(land))
        check_fresh(self, lambda: depths(land))
        self.assertEqual(hollows(land=land), hollows(land))

    def test_no_land(self):
        refused(self, NotLand, hollows, no_lands())


class TestDepths(unittest.TestCase):

    def test_none_first(self):
        chart = chart_of(
            {"a": "0", "b": "9", "c": "5", "d": "8", "e": "1", "f": "3", "g": "7", "h": "2"}, "ab bc cd de gh")
        self.assertEqual(hollows(Land.lowest(chart)), [
            ("a", 0, None), ("e", 1, 9), ("h", 2, None), ("f", 3, None), ("c", 5, 8)])
        self.assertEqual(depths(Land.lowest(chart)), [None, None, None, 8, 3])

    def test_equal_depths(self):
        self.assertEqual(depths(land_of(0, 3, 0, 3, 0, outlets="c")), [3, 3])
        self.assertEqual(depths(land_of(1, 3, 0, 3, 1)), [None, 2, 2])

    def test_by_the_definition(self):
        for land in many_lands():
            found = reference.hollows(land.chart, land.heights(), land.heights())
            self.assertEqual(depths(land), reference.depths(found))
            for depth in range(8):
                self.assertEqual(deeper(land, depth), reference.deeper(found, depth))

    def test_deeper_at_below_and_above_each_depth(self):
        land = land_of(0, 9, 5, 8, 1, 9, 4)
        self.assertEqual(depths(land), [None, 8, 5, 3])
        for depth, count in [(0, 4), (1, 4), (2, 4), (3, 3), (4, 3), (5, 2), (6, 2), (7, 2), (8, 1), (9, 1)]:
            self.assertEqual(deeper(land, depth), count)
            self.assertIs(type(deeper(land, depth)), int)

    def test_least_and_greatest_depth(self):
        land = land_of(-MOST, MOST, -MOST, MOST - 1, 0)
        self.assertEqual(depths(land), [None, 2 * MOST, MOST - 1])
        self.assertEqual([deeper(land, depth) for depth in [0, 2 * MOST - 1, 2 * MOST]], [3, 2, 1])
        self.assertEqual([deeper(land_of(5), depth) for depth in [0, 2 * MOST]], [1, 1])
        self.assertEqual([deeper(land_of(5, outlets="a"), depth) for depth in [0, 2 * MOST]], [0, 0])

    def test_sixty_places_high_and_low_by_turns(self):
        chart, names = long_line()
        land = Land.lowest(chart)
        found = [(names[0], 0, None)] + [(names[k], k, 1000 - k - 1 + 2) for k in range(2, 60, 2)]
        # A low place meets a deeper one over the high place before it, which is higher than the one behind it.
        self.assertEqual(hollows(land), found)
        self.assertEqual(depths(land), [None] + [1001 - 2 * k for k in range(2, 60, 2)])
        self.assertEqual(deeper(land, 1001 - 2 * 20), 10)
        self.assertEqual(len(basins(land, 900)), 30)
        self.assertEqual(basins(land, 1000), [sorted(names)])
        self.assertEqual(closed_count(land, 58, 900), 30)
        self.assertEqual(closed_count(land, 4, 999 - 4), 3)

    def test_by_name(self):
        land = land_of(0, 3, 1)
        self.assertEqual((depths(land=land), deeper(depth=2, land=land)), ([None, 2], 1))

    def test_errors(self):
        refused(self, NotLand, depths, no_lands())
        refused(self, NotLand, lambda value: deeper(value, 0), no_lands())
        refused(self, NotLand, lambda value: deeper(value, None), no_lands())
        refused(self, InvalidDepth, lambda value: deeper(land_of(0, 3, 1), value), no_depths())
        refused(self, InvalidDepth, lambda value: deeper(Land(Chart({}), {}), value), no_depths())


if __name__ == "__main__":
    unittest.main()
