"""Regions of deep hollows, and certificates for any value [53] to [55]."""

import itertools
import unittest

from surehollows.charts import Chart
from surehollows.errors import InvalidDepth, InvalidHeight, InvalidLevels, NotChart
from surehollows.lands import Land, closed_count, deeper, hollows
from surehollows.sure import deep_regions, is_deep, is_separate, least_deeper, sure_hollows, sure_regions
from tests import reference
from tests.helper import (
    MOST, chart_of, check_fresh, level_pairs, line_of, long_line, no_charts, no_depths, no_heights, no_lists, no_places,
    odd_values, raised, refused, sample, some_charts, some_lands
)


class TestDeepRegions(unittest.TestCase):

    def test_a_line(self):
        chart = line_of("0..1", "5..9", "0..2")
        for depth, regions in [
            (0, [("a", ["a"]), ("c", ["c"])]), (2, [("a", ["a"]), ("c", ["c"])]), (3, [("a", ["a"])]),
            (4, [("a", ["a", "b", "c"])]), (2 * MOST, [("a", ["a", "b", "c"])]),
        ]:
            self.assertEqual(deep_regions(chart, depth), regions)

    def test_a_sum_beyond_the_greatest_height(self):
        chart = chart_of({"b": f"0..{MOST - 1}", "a": f"{MOST}", "c": f"{-MOST}"}, "ab")
        for depth, regions in [
            (0, [("b", ["b"]), ("c", ["c"])]), (1, [("b", ["a", "b"]), ("c", ["c"])]),
            (5, [("b", ["a", "b"]), ("c", ["c"])]), (2 * MOST, [("b", ["a", "b"]), ("c", ["c"])]),
        ]:
            self.assertEqual(deep_regions(chart, depth), regions)

    def test_order_by_the_name_of_the_root(self):
        chart = chart_of({"a": "0..5", "d": "0..1", "b": "0..7", "c": "0..4"}, "ad bc")
        self.assertEqual(sure_hollows(chart), [("d", 1, None), ("c", 4, None)])
        self.assertEqual(deep_regions(chart, 3), [("c", ["b", "c"]), ("d", ["a", "d"])])

    def test_by_the_definition(self):
        for chart in some_charts(150, 13, most=5):
            lows = reference.lows(chart)
            for depth in range(6):
                regions = []
                for root, birth, death in sure_hollows(chart):
                    if death is None or death - birth > depth:
                        regions.append((root, reference.part_at(chart, lows, birth + depth, root)))
                self.assertEqual(deep_regions(chart, depth), sorted(regions))
                self.assertEqual(len(regions), least_deeper(chart, depth))

    def test_no_common_place_and_a_deep_hollow_in_each(self):
        for seed, chart in enumerate(some_charts(100, 14, most=5)):
            for depth in range(5):
                regions = deep_regions(chart, depth)
                names = [name for root, part in regions for name in part]
                self.assertEqual(len(names), len(set(names)))
                for land in some_lands(chart, 5, seed):
                    bottoms = [
                        bottom for bottom, birth, death in hollows(land) if death is None or death - birth > depth]
                    self.assertTrue(all(set(part) & set(bottoms) for root, part in regions))

    def test_no_place(self):
        self.assertEqual(deep_regions(Chart({}), 0), [])

    def test_sixty_places(self):
        chart, names = long_line()
        # From the last low place on, the high ones are not higher than 950.
        regions = [(names[k], [names[k]]) for k in range(0, 50, 2)] + [(names[50], sorted(names[50:]))]
        self.assertEqual(deep_regions(chart, 900), sorted(regions))

    def test_kinds_and_lists_that_are_changed_afterwards(self):
        chart = line_of("0..1", "5..9", "0..2")
        self.assertTrue(all(type(item) is tuple and type(item[1]) is list for item in deep_regions(chart, 0)))
        check_fresh(self, lambda: deep_regions(chart, 2))
        self.assertEqual(deep_regions(depth=3, chart=chart), [("a", ["a"])])

    def test_errors(self):
        refused(self, NotChart, lambda value: deep_regions(value, 0), no_charts())
        refused(self, NotChart, lambda value: deep_regions(value, None), no_charts())
        refused(self, InvalidDepth, lambda value: deep_regions(sample(), value), no_depths())


def far_line():
    """A line with low places a, c and e between the high ones b and d, and a place f apart."""
    chart = line_of("0..1", "5..9", "0..2", "4..9", "1..2")
    return Chart({**{name: chart[name] for name in "abcde"}, "f": chart["a"]}, chart.ties(), outlets=["e"])


def wrong_values():
    """Values that are no lists of tuples of a witness and a list of unlike places with it, for the chart above."""
    regions = [("a", ["a"]), ("c", ["c"])]
    entries = [
        *odd_values(), 0, "a", "ac", ["a", ["a"]], ("a",), ("a", ["a"], 1), ("a", ["a"], ["a"]), (), [], {"a": ["a"]},
        ("a", ("a",)), ("a", "a"), ("a", {"a": 1}), ("a", None), ("a", 1), ("a", []), ("a", ["a", "a"]), ("a", ["f"]),
        ("f", ["a"]), ("a", ["a", "z"]), ("z", ["z"]), ("z", ["a"]), (["a"], "a"), (["a"], ["a"]), (["a"], [["a"]]),
        sample(), Land.lowest(sample()),
    ]
    entries += [(item, ["a"]) for item in no_places()] + [("a", ["a", item]) for item in no_places()]
    entries += [(item, [item]) for item in no_places()] + [("a", item) for item in [*no_places(), *no_lists()] if item != ["a"]]
    values = [*no_lists(), tuple(regions), {"a": ["a"]}, ("a", ["a"]), sample()]
    for entry in entries:
        values += [[entry], [("c", ["c"]), entry], [entry, ("c", ["c"])]]
    return values


class TestIsSeparate(unittest.TestCase):

    def test_the_regions_in_any_order(self):
        for chart in some_charts(100, 15, most=5):
            for low, high in [(0, 0), (0, 2), (1, 1), (1, 3), (2, 3), (3, 3)]:
                regions = sure_regions(chart, low, high)
                self.assertIs(is_separate(chart, low, high, regions), True)
                self.assertIs(is_separate(chart, low, high, regions[::-1]), True)
                turned = [(witness, names[::-1]) for witness, names in regions]
                self.assertIs(is_separate(chart, low, high, turned), True)

    def test_the_empty_list(self):
        for low, high in level_pairs():
            self.assertIs(is_separate(far_line(), low, high, []), True)
        self.assertIs(is_separate(Chart({}), 0, 0, []), True)

    def test_values_of_any_kind(self):
        for value in wrong_values():
            self.assertIs(is_separate(far_line(), 2, 3, value), False, value)

    def test_each_clause(self):
        for value, told in [
            ([("a", ["a"])], True), ([("c", ["c"])], True), ([("c", ["c"]), ("a", ["a"])], True),
            ([("a", ["a"]), ("a", ["a"])], False), ([("a", ["a"]), ("c", ["a", "c"])], False),
            ([("a", ["a", "c"])], True), ([("c", ["c", "a"])], True), ([("a", ["a", "a"])], False),
            ([("b", ["a"])], False), ([("c", ["a"])], False), ([("b", ["b"])], False), ([("e", ["e"])], False),
            ([("f", ["f", "e"])], False), ([("f", ["f"])], True), ([("f", ["f", "a"])], True),
            ([("f", ["f"]), ("c", ["c"]), ("a", ["a"])], True), ([("a", ["a", "b"])], False),
            ([("a", ["a", "b", "c"])], True), ([("a", ["c", "a", "b"]), ("f", ["f"])], True),
            ([("b", ["a", "b", "c"])], False), ([("a", ["a", "f"]), ("f", ["c"])], False),
        ]:
            self.assertIs(is_separate(far_line(), 2, 3, value), told, value)

    def test_the_high_bound_of_the_witness(self):
        for low, told in [(0, False), (1, True), (2, True)]:
            self.assertIs(is_separate(far_line(), low, 3, [("a", ["a"])]), told)
            self.assertIs(is_separate(far_line(), low, 3, [("a", ["a", "c"])]), told)

    def test_the_low_bounds_of_tied_places(self):
        for high, told in [(3, True), (4, True), (5, False), (MOST, False)]:
            self.assertIs(is_separate(far_line(), 2, high, [("a", ["a"])]), told)
        for high, told in [(3, True), (4, False)]:
            self.assertIs(is_separate(far_line(), 2, high, [("c", ["c"])]), told)
            self.assertIs(is_separate(far_line(), 2, high, [("a", ["a"]), ("c", ["c"])]), told)
        for high in [3, 4, 5, MOST]:
            self.assertIs(is_separate(far_line(), 2, high, [("f", ["f"])]), True)

    def test_a_place_of_another_list_counts_as_outside(self):
        chart = line_of("0", "0", "0")
        self.assertIs(is_separate(chart, 0, 0, [("a", ["a"]), ("b", ["b", "c"])]), False)
        self.assertIs(is_separate(chart, 0, 0, [("b", ["a", "b", "c"])]), True)

    def test_all_lists_of_one_region_by_the_definition(self):
        for chart in some_charts(40, 16):
            for length in range(1, len(chart) + 1):
                for names in itertools.combinations(chart.names(), length):
                    for witness in names:
                        self.check_one_region(chart, witness, list(names))

    def check_one_region(self, chart, witness, names):
        around = [other for name in names for other in chart.neighbours(name) if other not in names]
        dry = not set(names) & set(chart.outlets())
        for low, high in [(0, 0), (1, 2), (2, 2), (3, 3)]:
            told = dry and chart[witness].high <= low and all(chart[other].low > high for other in around)
            self.assertIs(is_separate(chart, low, high, [(witness, names)]), told)
        for depth in range(4):
            told = dry and all(chart[other].low > chart[witness].high + depth for other in around)
            self.assertIs(is_deep(chart, depth, [(witness, names)]), told)

    def test_so_many_closed_basins_has_every_land(self):
        for seed, chart in enumerate(some_charts(30, 17)):
            entries = [
                (witness, list(names)) for length in range(1, len(chart) + 1)
                for names in itertools.combinations(chart.names(), length) for witness in names]
            lands = some_lands(chart, 5, seed)
            for value in [[entry] for entry in entries] + [list(pair) for pair in itertools.combinations(entries, 2)]:
                for low, high in [(0, 1), (2, 2)]:
                    if is_separate(chart, low, high, value):
                        self.assertTrue(all(closed_count(land, low, high) >= len(value) for land in lands))
                if is_deep(chart, 1, value):
                    self.assertTrue(all(deeper(land, 1) >= len(value) for land in lands))

    def test_errors_come_ahead_of_the_value(self):
        for value in [[], None]:
            refused(self, NotChart, lambda chart: is_separate(chart, 0, 0, value), no_charts())
            refused(self, NotChart, lambda chart: is_separate(chart, None, None, value), no_charts())
            refused(self, InvalidHeight, lambda low: is_separate(sample(), low, 0, value), no_heights())
            refused(self, InvalidHeight, lambda low: is_separate(sample(), low, (), value), no_heights())
            refused(self, InvalidHeight, lambda high: is_separate(sample(), 0, high, value), no_heights())
            error = raised(self, InvalidLevels, is_separate, sample(), 1, 0, value)
            self.assertEqual((error.low, error.high), (1, 0))

    def test_the_value_stays(self):
        value = [("c", ["c"]), ("a", ["a"])]
        self.assertIs(is_separate(value=value, high=3, low=2, chart=far_line()), True)
        self.assertIs(is_deep(value=value, depth=1, chart=far_line()), True)
        self.assertEqual(value, [("c", ["c"]), ("a", ["a"])])


class TestIsDeep(unittest.TestCase):

    def test_the_regions_in_any_order(self):
        for chart in some_charts(100, 18, most=5):
            for depth in range(5):
                regions = deep_regions(chart, depth)
                self.assertIs(is_deep(chart, depth, regions), True)
                self.assertIs(is_deep(chart, depth, regions[::-1]), True)
                self.assertIs(is_deep(chart, depth, [(root, names[::-1]) for root, names in regions]), True)
                self.assertIs(is_deep(chart, depth, regions + regions), regions == [])

    def test_the_empty_list(self):
        self.assertIs(is_deep(far_line(), 0, []), True)
        self.assertIs(is_deep(Chart({}), 2 * MOST, []), True)

    def test_values_of_any_kind(self):
        for value in wrong_values():
            self.assertIs(is_deep(far_line(), 1, value), False, value)

    def test_each_clause(self):
        for depth, value, told in [
            (0, [("a", ["a"])], True), (3, [("a", ["a"])], True), (4, [("a", ["a"])], False), (1, [("c", ["c"])], True),
            (2, [("c", ["c"])], False), (1, [("a", ["a", "c"])], True), (2, [("a", ["a", "c"])], True),
            (3, [("a", ["a", "c"])], False), (1, [("c", ["a", "c"])], True), (2, [("c", ["a", "c"])], False),
            (0, [("e", ["e"])], False), (0, [("a", ["a"]), ("c", ["a", "c"])], False), (0, [("b", ["b"])], False),
            (0, [("b", ["a", "b", "c"])], False), (0, [("a", ["a", "b", "c"])], True), (2, [("a", ["a", "b", "c"])], True),
            (3, [("a", ["a", "b", "c"])], False), (2 * MOST, [("f", ["f"])], True), (0, [("a", ["a"]), ("a", ["a"])], False),
            (0, [("a", ["f"])], False), (1, [("f", ["f"]), ("c", ["c"]), ("a", ["a"])], True),
            (0, [("f", ["f", "e"])], False), (0, [("a", ["a", "a"])], False), (0, [("a", ["b", "c"])], False),
        ]:
            self.assertIs(is_deep(far_line(), depth, value), told, (depth, value))

    def test_no_bound_for_the_witness(self):
        chart = chart_of({"a": f"0..{MOST}", "b": f"{MOST}"}, "ab")
        self.assertIs(is_deep(chart, 0, [("a", ["a"])]), False)
        self.assertIs(is_deep(chart, 0, [("a", ["a", "b"])]), True)
        self.assertIs(is_deep(chart, 2 * MOST, [("a", ["a", "b"])]), True)

    def test_errors_come_ahead_of_the_value(self):
        for value in [[], None]:
            refused(self, NotChart, lambda chart: is_deep(chart, 0, value), no_charts())
            refused(self, NotChart, lambda chart: is_deep(chart, None, value), no_charts())
            refused(self, InvalidDepth, lambda depth: is_deep(sample(), depth, value), no_depths())


if __name__ == "__main__":
    unittest.main()
