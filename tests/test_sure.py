"""Sure regions and sure hollows [7], [8], [51], [52]."""

import unittest

from surehollows.charts import Chart
from surehollows.errors import InvalidDepth, InvalidHeight, InvalidLevels, NotChart
from surehollows.lands import Land, closed_count, depths, hollows
from surehollows.sure import least_deeper, least_depths, sure_count, sure_hollows, sure_regions
from tests import reference
from tests.helper import (
    MOST, chart_of, check_fresh, level_pairs, line_of, long_line, look, no_charts, no_depths, no_heights, raised, refused,
    sample, some_charts, some_lands
)


class TestRegions(unittest.TestCase):

    def test_a_line(self):
        chart = line_of("0..1", "5..9", "0..2")
        for low, high, regions in [
            (-1, 9, []), (0, 0, []), (0, 9, []), (1, 1, [("a", ["a"])]), (1, 4, [("a", ["a"])]),
            (1, 5, [("a", ["a", "b", "c"])]), (2, 2, [("a", ["a"]), ("c", ["c"])]), (2, 4, [("a", ["a"]), ("c", ["c"])]),
            (2, 5, [("a", ["a", "b", "c"])]), (9, MOST, [("a", ["a", "b", "c"])]), (-MOST, MOST, []),
        ]:
            self.assertEqual(sure_regions(chart, low, high), regions, (low, high))
            self.assertEqual(sure_count(chart, low, high), len(regions))
            self.assertIs(type(sure_count(chart, low, high)), int)

    def test_equal_high_bounds(self):
        # The lesser name ranks first, wherever the low bounds lie.
        chart = chart_of({"b": "0..2", "a": "1..2", "c": "-5..3"}, "bc ca")
        self.assertEqual(sure_regions(chart, 2, 2), [("a", ["a", "b", "c"])])
        self.assertEqual(sure_regions(chart_of({"b": "0..2", "a": "1..3"}, "ab"), 3, 3), [("b", ["a", "b"])])

    def test_outlets(self):
        self.assertEqual(sure_regions(line_of("0..1", "5..9", "0..2", outlets="a"), 2, 4), [("c", ["c"])])
        self.assertEqual(sure_regions(line_of("0..1", "5..9", "0..2", outlets="b"), 2, 4), [("a", ["a"]), ("c", ["c"])])
        self.assertEqual(sure_regions(line_of("0..1", "5..9", "0..2", outlets="b"), 2, 5), [])
        self.assertEqual(sure_regions(line_of("0..1", "5..9", "0..2", outlets="abc"), 2, 2), [])

    def test_order_by_the_name_of_the_witness(self):
        # By first names, a stands before b; by witnesses, d behind c.
        chart = chart_of({"a": "0..5", "d": "0..1", "b": "0..7", "c": "0..4"}, "ad bc")
        self.assertEqual(sure_regions(chart, 4, 4), [("c", ["b", "c"]), ("d", ["a", "d"])])

    def test_kinds(self):
        regions = sure_regions(line_of("0..1", "5..9", "0..2"), 2, 4)
        self.assertIs(type(regions), list)
        self.assertTrue(all(type(item) is tuple and type(item[1]) is list for item in regions))

    def test_by_the_definition(self):
        for chart in some_charts(200, 8, most=5):
            lows, highs = reference.lows(chart), reference.highs(chart)
            for low, high in level_pairs():
                parts = reference.closed_at(chart, lows, highs, low, high)
                regions = sorted([(min(part, key=lambda name: (highs[name], name)), part) for part in parts])
                self.assertEqual(sure_regions(chart, low, high), regions)
                self.assertEqual(sure_count(chart, low, high), len(regions))

    def test_each_region_contains_a_closed_basin(self):
        for seed, chart in enumerate(some_charts(60, 9, most=5)):
            for land in some_lands(chart, 5, seed):
                heights = land.heights()
                for low, high in level_pairs():
                    basins = reference.closed_at(chart, heights, heights, low, high)
                    for witness, names in sure_regions(chart, low, high):
                        self.assertTrue(any(set(basin) <= set(names) for basin in basins))

    def test_no_place(self):
        self.assertEqual((sure_regions(Chart({}), 0, 0), sure_count(Chart({}), 0, 0)), ([], 0))

    def test_by_name(self):
        chart = line_of("0..1", "5..9", "0..2")
        self.assertEqual(sure_regions(high=4, low=1, chart=chart), [("a", ["a"])])
        self.assertEqual(sure_count(high=4, low=2, chart=chart), 2)

    def test_lists_that_are_changed_afterwards(self):
        chart = line_of("0..1", "5..9", "0..2")
        before = look(chart)
        check_fresh(self, lambda: sure_regions(chart, 2, 4))
        self.assertEqual(look(chart), before)

    def test_errors(self):
        for call in [sure_regions, sure_count]:
            refused(self, NotChart, lambda value: call(value, 0, 0), no_charts())
            refused(self, NotChart, lambda value: call(value, 1, 0), no_charts())
            refused(self, NotChart, lambda value: call(value, None, None), no_charts())
            refused(self, InvalidHeight, lambda value: call(sample(), value, 0), no_heights())
            refused(self, InvalidHeight, lambda value: call(sample(), value, ()), no_heights())
            refused(self, InvalidHeight, lambda value: call(sample(), 0, value), no_heights())
            for low, high in [(1, 0), (0, -1), (MOST, -MOST), (3, 2)]:
                error = raised(self, InvalidLevels, call, sample(), low, high)
                self.assertEqual((error.low, error.high), (low, high))


class TestHollows(unittest.TestCase):

    def test_births_and_deaths(self):
        for chart, found in [
            (line_of("0..1", "5..9", "0..2"), [("a", 1, None), ("c", 2, 5)]),
            (line_of("0..1", "0..9", "0..2"), [("a", 1, None)]),
            (line_of("0..1", "2..9", "0..2"), [("a", 1, None)]),
            (line_of("0..1", "3..9", "0..2"), [("a", 1, None), ("c", 2, 3)]),
            (line_of("0..1", "3..9", "0..1"), [("a", 1, None), ("c", 1, 3)]),
            (line_of("0..3", "7", "0..2", "5", "0..4"), [("c", 2, None), ("a", 3, 7), ("e", 4, 5)]),
            (line_of("-4..-3", "0..1", "-9..-2"), [("a", -3, None), ("c", -2, 0)]),
            (line_of("0..1", "5..9", "0..2", outlets="a"), [("c", 2, 5)]),
            (line_of("0..1", "5..9", "0..2", outlets="b"), [("a", 1, 5), ("c", 2, 5)]),
            (line_of("0..1", "5..9", "0..2", outlets="c"), [("a", 1, 5)]),
            (line_of("0..1", "5..9", "0..2", outlets="ac"), []),
            (line_of("0..5", "5", outlets="b"), []), (line_of("0..4", "5", outlets="b"), [("a", 4, 5)]),
            (line_of("3..7"), [("a", 7, None)]), (line_of("3..7", outlets="a"), []), (Chart({}), []),
        ]:
            self.assertEqual(sure_hollows(chart), found)

    def test_equal_high_bounds(self):
        chart = chart_of({"b": "0..2", "c": "6", "a": "1..2"}, "bc ca")
        self.assertEqual(sure_hollows(chart), [("a", 2, None), ("b", 2, 6)])

    def test_several_parts_in_order(self):
        chart = chart_of({"d": "0..1", "c": "4..5", "b": "0..3", "a": "7", "e": "3..8", "f": "-2..1", "g": "0..3"}, "bc ef", "e")
        self.assertEqual(
            sure_hollows(chart), [("d", 1, None), ("f", 1, 3), ("b", 3, None), ("g", 3, None), ("a", 7, None)])

    def test_by_the_definition(self):
        for chart in some_charts(300, 10, most=5):
            found = sure_hollows(chart)
            self.assertEqual(found, reference.hollows(chart, reference.lows(chart), reference.highs(chart)))
            self.assertEqual(least_depths(chart), reference.depths(found))
            for depth in range(7):
                self.assertEqual(least_deeper(chart, depth), reference.deeper(found, depth))

    def test_sure_counts(self):
        for chart in some_charts(150, 11, most=5):
            found = sure_hollows(chart)
            for low, high in level_pairs():
                self.assertEqual(sure_count(chart, low, high), reference.living(found, low, high))

    def test_equal_bounds_give_the_hollows_of_the_only_land(self):
        for seed, chart in enumerate(some_charts(100, 12, most=5)):
            for land in some_lands(chart, 3, seed):
                pinned = land.pinned()
                self.assertEqual(sure_hollows(pinned), hollows(land))
                self.assertEqual(least_depths(pinned), depths(land))
                for low, high in [(0, 0), (0, 2), (1, 3)]:
                    self.assertEqual(sure_count(pinned, low, high), closed_count(land, low, high))

    def test_sixty_places(self):
        chart, names = long_line()
        self.assertEqual(sure_hollows(chart), hollows(Land.lowest(chart)))
        self.assertEqual(least_depths(chart), [None] + [1001 - 2 * k for k in range(2, 60, 2)])

    def test_kinds_and_lists_that_are_changed_afterwards(self):
        chart = line_of("0..1", "5..9", "0..2")
        self.assertTrue(all(type(item) is tuple for item in sure_hollows(chart)))
        check_fresh(self, lambda: sure_hollows(chart))
        check_fresh(self, lambda: least_depths(chart))
        self.assertEqual((sure_hollows(chart=chart), least_depths(chart=chart)), (sure_hollows(chart), [None, 3]))

    def test_no_chart(self):
        refused(self, NotChart, sure_hollows, no_charts())
        refused(self, NotChart, least_depths, no_charts())


class TestDepths(unittest.TestCase):

    def test_none_first(self):
        chart = chart_of(
            {"a": "0..1", "b": "9", "c": "3..5", "d": "8..9", "e": "1..2", "f": "3", "g": "7", "h": "2"}, "ab bc cd de gh")
        self.assertEqual(least_depths(chart), [None, None, None, 7, 3])

    def test_deeper_at_below_and_above_each_depth(self):
        chart = line_of("0", "9", "3..5", "8..9", "1", "9..10", "2..4")
        self.assertEqual(least_depths(chart), [None, 8, 5, 3])
        for depth, count in [(0, 4), (1, 4), (2, 4), (3, 3), (4, 3), (5, 2), (6, 2), (7, 2), (8, 1), (9, 1)]:
            self.assertEqual(least_deeper(chart, depth), count)
            self.assertIs(type(least_deeper(chart, depth)), int)
        self.assertEqual(least_deeper(depth=3, chart=chart), 3)

    def test_least_and_greatest_depth(self):
        chart = line_of(str(-MOST), str(MOST), str(-MOST))
        self.assertEqual(least_depths(chart), [None, 2 * MOST])
        self.assertEqual([least_deeper(chart, depth) for depth in [0, 2 * MOST - 1, 2 * MOST]], [2, 2, 1])
        self.assertEqual([least_deeper(Chart({}), depth) for depth in [0, 2 * MOST]], [0, 0])

    def test_errors(self):
        refused(self, NotChart, lambda value: least_deeper(value, 0), no_charts())
        refused(self, NotChart, lambda value: least_deeper(value, None), no_charts())
        refused(self, InvalidDepth, lambda value: least_deeper(sample(), value), no_depths())
        refused(self, InvalidDepth, lambda value: least_deeper(Chart({}), value), no_depths())


if __name__ == "__main__":
    unittest.main()
