"""Roots, the calm land, calm ways and surpluses [61] to [64]."""

import unittest

from surehollows.calm import calm_land, calm_way, is_calm, roots, surplus
from surehollows.charts import Chart
from surehollows.errors import NotChart, NotLand, UnknownPlace
from surehollows.lands import Land, closed_count, hollows
from surehollows.passes import is_way
from surehollows.sure import sure_count, sure_hollows
from tests import reference
from tests.helper import (
    MOST, chart_of, check_fresh, level_pairs, line_of, long_line, look, no_charts, no_lands, no_places, refused, sample,
    some_charts, some_lands
)


def height_by_rule(chart, name):
    """The height of a place in the calm land by the rule of [61]."""
    lows = reference.lows(chart)
    numbers = []
    for other in chart.names():
        level = reference.least_pass(chart, lows, name, other)
        if level is not None and other in chart.outlets():
            numbers.append(level)
        if level is not None and other in roots(chart):
            numbers.append(max(level, chart[other].high))
    return max(lows[name], min(numbers))


class TestRoots(unittest.TestCase):

    def test_order_by_high_bound_and_name(self):
        chart = chart_of({"e": "0..2", "d": "9", "c": "0..4", "b": "0..2", "a": "9", "f": "-7..1"}, "ed dc cb ba")
        self.assertEqual(roots(chart), ["f", "b", "e"])
        chart = chart_of({"c": "0..2", "b": "5..7", "a": "1..2", "e": "0..2"}, "cb ba eb", "e")
        self.assertEqual(roots(chart), ["a", "c"])

    def test_by_the_definition(self):
        for chart in some_charts(150, 19, most=5):
            found = reference.hollows(chart, reference.lows(chart), reference.highs(chart))
            self.assertEqual(roots(chart), [root for root, birth, death in found])

    def test_small_charts(self):
        self.assertEqual(roots(Chart({})), [])
        self.assertEqual(roots(line_of("3..7")), ["a"])
        self.assertEqual(roots(line_of("3..7", outlets="a")), [])

    def test_lists_that_are_changed_afterwards(self):
        chart = line_of("0..1", "5..9", "0..2")
        check_fresh(self, lambda: roots(chart))
        self.assertEqual(roots(chart=chart), ["a", "c"])

    def test_no_chart(self):
        refused(self, NotChart, roots, no_charts())


class TestCalmLand(unittest.TestCase):

    def test_examples_of_the_point(self):
        chart = line_of("0..1", "0..9", "0..2")
        land = calm_land(chart)
        self.assertEqual((roots(chart), land.heights(), hollows(land)), (["a"], {"a": 1, "b": 1, "c": 1}, [("a", 1, None)]))
        chart = line_of("0..1", "5..9", "0..2")
        self.assertEqual((roots(chart), calm_land(chart).heights()), (["a", "c"], {"a": 1, "b": 5, "c": 2}))
        self.assertEqual(sure_hollows(chart), [("a", 1, None), ("c", 2, 5)])

    def test_lines(self):
        for chart, heights in [
            (line_of("0..1", "5..9", "0..2", outlets="a"), [0, 5, 2]),
            (line_of("0..1", "5..9", "0..2", outlets="b"), [1, 5, 2]),
            (line_of("0..1", "0..9", "0..2", outlets="c"), [0, 0, 0]),
            (line_of("0..9", "4..9", "0..9", "2..3", outlets="ad"), [0, 4, 2, 2]),
            (line_of("3..7"), [7]), (line_of("3..7", outlets="a"), [3]),
            (line_of("-5..-4", "-9..9", "-2..3", "-9..0"), [-4, -4, -2, -2]),
            (line_of(f"{-MOST}..{MOST}", f"{MOST}"), [MOST, MOST]),
        ]:
            self.assertEqual(list(calm_land(chart).heights().values()), heights)

    def test_several_parts(self):
        chart = chart_of(
            {"a": "0..3", "b": "1..9", "c": "0..8", "d": "5..6", "e": "0..1", "f": "2..4"}, "ab cd ef", "f")
        self.assertEqual(calm_land(chart).heights(), {"a": 3, "b": 3, "c": 6, "d": 6, "e": 1, "f": 2})

    def test_no_place(self):
        self.assertEqual(calm_land(Chart({})).heights(), {})

    def test_by_the_rule(self):
        for chart in some_charts(200, 20, most=5):
            land = calm_land(chart)
            self.assertIs(land.chart == chart, True)
            for name in chart.names():
                self.assertEqual(land(name), height_by_rule(chart, name))
                self.assertTrue(land(name) in chart[name])
            self.assertEqual([land(root) for root in roots(chart)], [chart[root].high for root in roots(chart)])
            self.assertEqual([land(name) for name in chart.outlets()], [chart[name].low for name in chart.outlets()])

    def test_sixty_places(self):
        chart, names = long_line()
        self.assertIs(calm_land(chart) == Land.lowest(chart), True)
        wide = Chart({name: sample()["d"] for name in names}, chart.ties(), outlets=[names[7]])
        self.assertEqual(set(calm_land(wide).heights().values()), {-4})

    def test_the_chart_stays(self):
        chart = line_of("0..1", "5..9", "0..2")
        before = look(chart)
        self.assertIs(calm_land(chart) == calm_land(chart=chart), True)
        calm_land(chart).heights().clear()
        self.assertEqual((look(chart), calm_land(chart).heights()), (before, {"a": 1, "b": 5, "c": 2}))

    def test_no_chart(self):
        refused(self, NotChart, calm_land, no_charts())


class TestCalmWays(unittest.TestCase):

    def check_way(self, chart, name):
        land = calm_land(chart)
        way = calm_way(chart, name)
        self.assertIs(is_way(chart, way), True)
        self.assertEqual(way[0], name)
        self.assertIn(way[-1], roots(chart) + chart.outlets())
        self.assertTrue(all(land(other) <= land(name) for other in way))

    def test_ways(self):
        chart = line_of("0..1", "5..9", "0..2", "1..7", "0..3")
        self.assertEqual(calm_way(chart, "a"), ["a"])
        self.assertEqual(calm_way(chart, "e"), ["e", "d", "c"])
        self.assertEqual(calm_way(line_of("3..7", outlets="a"), "a"), ["a"])
        for name in chart.names():
            self.check_way(chart, name)

    def test_many_charts(self):
        for chart in some_charts(200, 21, most=6):
            for name in chart.names():
                self.check_way(chart, name)

    def test_sixty_places(self):
        chart, names = long_line()
        wide = Chart({name: sample()["d"] for name in names}, chart.ties(), outlets=[names[0]])
        self.assertEqual(calm_way(wide, names[59]), names[::-1])
        for name in names:
            self.check_way(chart, name)

    def test_lists_that_are_changed_afterwards(self):
        chart = line_of("0..1", "5..9", "0..2", "1..7", "0..3")
        check_fresh(self, lambda: calm_way(chart, "e"))
        self.assertEqual(calm_way(name="e", chart=chart), ["e", "d", "c"])

    def test_errors(self):
        refused(self, NotChart, lambda value: calm_way(value, "a"), no_charts())
        refused(self, NotChart, lambda value: calm_way(value, None), no_charts())
        refused(self, UnknownPlace, lambda value: calm_way(sample(), value), no_places())


def first_surplus(chart, land):
    """The least high level with a surplus at some low one, and the least such low one, among small levels."""
    pairs = [(high, low) for low, high in level_pairs() if closed_count(land, low, high) > sure_count(chart, low, high)]
    return min(pairs)[::-1] if pairs else None


class TestSurplus(unittest.TestCase):

    def test_the_calm_land_and_others(self):
        chart = line_of("0..1", "5..9", "0..2")
        self.assertIs(is_calm(chart, calm_land(chart)), True)
        self.assertIs(surplus(chart, calm_land(chart)), None)
        for heights, found in [
            ([1, 5, 2], None), ([1, 5, 1], (1, 1)), ([0, 5, 2], (0, 0)), ([1, 6, 2], (2, 5)), ([1, 9, 2], (2, 5)),
            ([0, 9, 0], (0, 0)),
        ]:
            land = Land(chart, dict(zip("abc", heights)))
            self.assertEqual(surplus(chart, land), found)
            self.assertIs(is_calm(chart, land), found is None)

    def test_the_least_high_level_first(self):
        chart = line_of("-1", "8..9", "0", "3..5", "2")
        land = Land.highest(chart)
        self.assertEqual(surplus(chart, land), (2, 3))
        for low, high, more in [(-1, 8, 0), (0, 8, 1), (0, 7, 0), (0, 3, 0), (1, 3, 0), (2, 2, 0), (2, 3, 1), (3, 3, 1)]:
            self.assertEqual(closed_count(land, low, high) - sure_count(chart, low, high), more)

    def test_other_land_is_calm(self):
        # Not only the calm land is calm.
        chart = line_of("0..4", "2..9")
        self.assertEqual(calm_land(chart).heights(), {"a": 4, "b": 4})
        self.assertIs(is_calm(chart, Land(chart, {"a": 4, "b": 9})), True)
        self.assertIs(surplus(chart, Land(chart, {"a": 4, "b": 9})), None)

    def test_deaths_alone_differ(self):
        chart = line_of("0", "3..7", "1")
        self.assertEqual(surplus(chart, Land(chart, {"a": 0, "b": 5, "c": 1})), (1, 3))
        chart = line_of("0", f"{MOST - 1}..{MOST}", "1")
        self.assertEqual(surplus(chart, Land.highest(chart)), (1, MOST - 1))

    def test_many_lands(self):
        calm = 0
        for seed, chart in enumerate(some_charts(150, 22, most=5)):
            for land in some_lands(chart, 6, seed):
                found = first_surplus(chart, land)
                self.assertEqual(surplus(chart, land), found)
                self.assertIs(is_calm(chart, land), found is None)
                calm += found is None
            self.assertIs(is_calm(chart, calm_land(chart)), True)
        self.assertTrue(100 < calm < 800)

    def test_no_place(self):
        self.assertIs(is_calm(Chart({}), Land(Chart({}), {})), True)
        self.assertIs(surplus(Chart({}), Land(Chart({}), {})), None)

    def test_sixty_places(self):
        chart, names = long_line()
        self.assertIs(is_calm(chart, Land.lowest(chart)), True)
        apart = Chart({name: sample()["d"] for name in names})
        self.assertEqual(surplus(apart, Land.lowest(apart)), (-4, -4))
        self.assertIs(surplus(apart, Land.highest(apart)), None)

    def test_an_equal_chart_that_is_another_object(self):
        land = Land(line_of("0..1", "5..9", "0..2"), {"a": 1, "b": 5, "c": 2})
        self.assertIs(is_calm(line_of("0..1", "5..9", "0..2"), land), True)
        self.assertIs(surplus(land=land, chart=line_of("0..1", "5..9", "0..2")), None)
        self.assertIs(is_calm(land=land, chart=line_of("0..1", "5..9", "0..2")), True)

    def test_lands_of_other_charts(self):
        chart = chart_of({"a": "0..1", "b": "5..9", "c": "0..2"}, "ab bc", "c")
        others = [
            chart_of({"a": "0..1", "b": "5..8", "c": "0..2"}, "ab bc", "c"),
            chart_of({"a": "1", "b": "5..9", "c": "0..2"}, "ab bc", "c"),
            chart_of({"a": "0..1", "b": "5..9", "c": "0..2"}, "ab", "c"),
            chart_of({"a": "0..1", "b": "5..9", "c": "0..2"}, "ab bc ac", "c"),
            chart_of({"a": "0..1", "b": "5..9", "c": "0..2"}, "ab bc"),
            chart_of({"a": "0..1", "b": "5..9", "c": "0..2"}, "ab bc", "a"),
            chart_of({"a": "0..1", "b": "5..9", "c": "0..2"}, "ab bc", "ac"),
            chart_of({"a": "0..1", "b": "5..9"}, "ab"), Chart({}), Land.highest(chart).pinned(),
        ]
        for call in [is_calm, surplus]:
            refused(self, NotLand, lambda value: call(chart, value), [Land.highest(other) for other in others])

    def test_errors(self):
        for call in [is_calm, surplus]:
            refused(self, NotChart, lambda value: call(value, Land.lowest(sample())), no_charts())
            refused(self, NotChart, lambda value: call(value, None), no_charts())
            refused(self, NotLand, lambda value: call(sample(), value), no_lands())

    def test_kinds(self):
        chart = line_of("0..1", "5..9", "0..2")
        found = surplus(chart, Land.lowest(chart))
        self.assertIs(type(found), tuple)
        self.assertEqual(surplus(chart, Land.lowest(chart)), found)


if __name__ == "__main__":
    unittest.main()
