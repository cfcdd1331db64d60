"""Water [71] to [76]."""

import unittest

from surehollows.charts import Chart
from surehollows.errors import InvalidDepth, NoOutlet, NotChart, NotLand, UnknownPlace
from surehollows.lands import Land
from surehollows.passes import is_way
from surehollows.water import (
    dry_land, escape, greatest_water, land_with_water, least_total, least_water, never_wet, surely_wet, total_water,
    water, water_level, wet_land
)
from tests import reference
from tests.helper import (
    MOST, SomeObject, bounds, chart_of, check_fresh, lands_of, line_of, long_line, look, no_charts, no_heights, no_lands,
    no_places, raised, refused, sample, some_charts, some_lands
)


def land_of(*heights, outlets=""):
    """A land whose places a, b, .. lie in one line."""
    return Land.lowest(line_of(*[str(height) for height in heights], outlets=outlets))


def example():
    return line_of("0..2", "3..8", "1", outlets="c")


class TestWater(unittest.TestCase):

    def test_levels(self):
        for land, levels in [
            (land_of(0, 3, 1, outlets="c"), [3, 3, 1]), (land_of(0, 3, 1, outlets="b"), [3, 3, 3]),
            (land_of(0, 3, 1, outlets="a"), [0, 3, 3]), (land_of(0, 3, 1, outlets="ac"), [0, 3, 1]),
            (land_of(9, 0, 5, 0, 7, outlets="ae"), [9, 7, 7, 7, 7]), (land_of(0, 3, 1), [None, None, None]),
            (land_of(4, outlets="a"), [4]), (land_of(4, 3, 2, 1, outlets="d"), [4, 3, 2, 1]),
            (land_of(-5, -2, -9, -7, outlets="d"), [-2, -2, -7, -7]), (land_of(2, 2, 2, outlets="c"), [2, 2, 2]),
        ]:
            names = land.chart.names()
            self.assertEqual([water_level(land, name) for name in names], levels)
            waters = [None if level is None else level - land(name) for name, level in zip(names, levels)]
            self.assertEqual([water(land, name) for name in names], waters)
            self.assertEqual(total_water(land), sum([one or 0 for one in waters]))

    def test_a_part_without_an_outlet(self):
        land = Land.lowest(chart_of({"a": "0", "b": "5", "c": "1", "d": "7", "e": "2"}, "ab bc de", "c"))
        self.assertEqual([water_level(land, name) for name in "abcde"], [5, 5, 1, None, None])
        self.assertEqual([water(land, name) for name in "abcde"], [5, 0, 0, None, None])
        self.assertEqual(total_water(land), 5)

    def test_the_lesser_of_two_ways(self):
        land = Land.lowest(chart_of({"a": "0", "b": "5", "c": "4", "o": "1"}, "ab bo ac co", "o"))
        self.assertEqual((water_level(land, "a"), total_water(land)), (4, 4))

    def test_by_the_definition(self):
        for seed, chart in enumerate(some_charts(120, 23, most=5)):
            for land in some_lands(chart, 4, seed):
                for name in chart.names():
                    self.assertEqual(water_level(land, name), reference.water_level(chart, land.heights(), name))
                    self.assertEqual(water(land, name), reference.water(land, name))
                    self.assertTrue(water(land, name) is None or water(land, name) >= 0)
                self.assertEqual(total_water(land), sum(reference.water(land, name) or 0 for name in chart.names()))

    def test_no_place(self):
        self.assertEqual(total_water(Land(Chart({}), {})), 0)
        self.assertIs(type(total_water(land_of(1, 2))), int)

    def test_sixty_places(self):
        chart, names = long_line()
        land = Land.lowest(Chart({name: chart[name] for name in names}, chart.ties(), outlets=[names[59]]))
        self.assertEqual(water_level(land, names[0]), 999)
        self.assertEqual(water_level(land, names[2]), 997)
        self.assertEqual(total_water(land), sum(999 - k - k for k in range(0, 60, 2)))

    def test_by_name(self):
        land = land_of(0, 3, 1, outlets="c")
        self.assertEqual((water_level(name="a", land=land), water(name="a", land=land), total_water(land=land)), (3, 3, 3))

    def test_errors(self):
        land = land_of(0, 3, 1, outlets="c")
        refused(self, NotLand, total_water, no_lands())
        for call in [water_level, water]:
            refused(self, NotLand, lambda value: call(value, "a"), no_lands())
            refused(self, NotLand, lambda value: call(value, None), no_lands())
            refused(self, UnknownPlace, lambda value: call(land, value), no_places())
            refused(self, UnknownPlace, lambda value: call(Land(Chart({}), {}), value), ["a", None])


class TestDryLand(unittest.TestCase):

    def test_by_its_rule(self):
        self.assertEqual(dry_land(example()).heights(), {"a": 2, "b": 3, "c": 1})
        for chart, heights in [
            (line_of("0..9", "3..8", "1", outlets="c"), [3, 3, 1]), (line_of("0..2", "3..8", "1..4", outlets="c"), [2, 3, 1]),
            (line_of("0..2", "3..8", "1..4"), [2, 8, 4]), (line_of("0..2", outlets="a"), [0]), (Chart({}), []),
            (line_of("0..5", "2..9", "-1..3", "1", outlets="ad"), [0, 2, 1, 1]),
        ]:
            self.assertEqual(list(dry_land(chart).heights().values()), heights)
            self.assertIs(dry_land(chart).chart == chart, True)

    def test_many_charts_by_the_rule(self):
        for chart in some_charts(150, 24, most=5):
            lows = reference.lows(chart)
            land = dry_land(chart)
            for name in chart.names():
                level = reference.water_level(chart, lows, name)
                self.assertEqual(land(name), chart[name].high if level is None else min(chart[name].high, level))

    def test_no_land_has_less_water(self):
        for chart in some_charts(60, 25):
            dry = dry_land(chart)
            lands = lands_of(chart)[:100] + [Land.highest(chart)]
            for name in chart.names():
                waters = [water(land, name) for land in lands]
                self.assertTrue(all(found == water(dry, name) or found > water(dry, name) for found in waters))
                self.assertEqual(least_water(chart, name), water(dry, name))
            self.assertTrue(all(total_water(land) >= total_water(dry) for land in lands))
            self.assertEqual(least_total(chart), total_water(dry))

    def test_least_and_greatest_water_of_all_lands(self):
        for chart in some_charts(60, 26, most=4, top=2, widest=2):
            lands = lands_of(chart)
            for name in chart.names():
                waters = [reference.water(land, name) for land in lands]
                if waters[0] is None:
                    self.assertEqual(set(waters), {None})
                    self.assertIs(least_water(chart, name), None)
                    self.assertIs(greatest_water(chart, name), None)
                else:
                    self.assertEqual((least_water(chart, name), greatest_water(chart, name)), (min(waters), max(waters)))
            self.assertEqual(least_total(chart), min(total_water(land) for land in lands))
            self.check_lists(chart, lands)

    def check_lists(self, chart, lands):
        reached = [name for name in chart.names() if water(lands[0], name) is not None]
        self.assertEqual(surely_wet(chart), [name for name in reached if all(water(land, name) > 0 for land in lands)])
        self.assertEqual(never_wet(chart), [name for name in reached if all(water(land, name) == 0 for land in lands)])

    def test_wet_land(self):
        chart = chart_of({"a": "0..2", "b": "3..8", "c": "1..4", "d": "0..5"}, "ab bc", "c")
        for name, heights in [("a", [0, 8, 4, 5]), ("b", [2, 3, 4, 5]), ("c", [2, 8, 1, 5]), ("d", [2, 8, 4, 0])]:
            land = wet_land(chart, name)
            self.assertEqual(list(land.heights().values()), heights)
            self.assertIs(land.chart == chart, True)
            self.assertEqual(water(land, name), greatest_water(chart, name))
        self.assertEqual([greatest_water(chart, name) for name in "abcd"], [8, 1, 0, None])
        self.assertEqual([least_water(chart, name) for name in "abcd"], [1, 0, 0, None])

    def test_lists_in_order(self):
        chart = chart_of(
            {"g": "0", "f": "0..2", "e": "3..4", "d": "9", "c": "0..1", "b": "2", "a": "0..5", "h": "1..9"},
            "ge fe eb cb bd da", "bh")
        self.assertEqual(surely_wet(chart), ["a", "c", "f", "g"])
        self.assertEqual(never_wet(chart), ["b", "d", "e", "h"])
        apart = chart_of({"a": "0", "b": "5", "c": "0"}, "ab", "c")
        self.assertEqual((surely_wet(apart), never_wet(apart)), ([], ["c"]))
        self.assertEqual((surely_wet(Chart({})), never_wet(Chart({})), least_total(Chart({}))), ([], [], 0))
        self.assertEqual((surely_wet(line_of("0", "1")), never_wet(line_of("0", "1"))), ([], []))

    def test_what_was_returned_may_be_changed(self):
        chart = example()
        before = look(chart)
        check_fresh(self, lambda: surely_wet(chart))
        check_fresh(self, lambda: never_wet(chart))
        dry_land(chart).heights().clear()
        wet_land(chart, "a").heights().clear()
        self.assertIs(dry_land(chart) == dry_land(chart=chart), True)
        self.assertIs(wet_land(chart, "a") == wet_land(name="a", chart=chart), True)
        self.assertEqual((least_water(name="a", chart=chart), greatest_water(name="a", chart=chart)), (1, 8))
        self.assertEqual((least_total(chart=chart), surely_wet(chart=chart), never_wet(chart=chart)), (1, ["a"], ["b", "c"]))
        self.assertEqual(look(chart), before)

    def test_errors(self):
        for call in [dry_land, least_total, surely_wet, never_wet]:
            refused(self, NotChart, call, no_charts())
        for call in [least_water, greatest_water, wet_land]:
            refused(self, NotChart, lambda value: call(value, "a"), no_charts())
            refused(self, NotChart, lambda value: call(value, None), no_charts())
            refused(self, UnknownPlace, lambda value: call(example(), value), no_places())


class TestLandWithWater(unittest.TestCase):

    def check_all_depths(self, chart, name):
        least, greatest = least_water(chart, name), greatest_water(chart, name)
        for depth in range(least, greatest + 1):
            land = land_with_water(chart, name, depth)
            self.assertIs(land.chart == chart, True)
            self.assertEqual(water(land, name), depth)
        for depth in [least - 1, greatest + 1, least - 100, greatest + 100]:
            self.assertIs(raised(self, InvalidDepth, land_with_water, chart, name, depth).value, depth)

    def test_all_depths(self):
        for chart, name in [
            (example(), "a"), (example(), "b"), (example(), "c"), (line_of("0..9", "3..8", "1..4", outlets="c"), "a"),
            (line_of("5..9", "0..1", outlets="b"), "a"), (line_of("0..9", "0..9", "0..9", "4..5", outlets="ad"), "b"),
            (line_of("7..9", "0..8", "0..9", outlets="c"), "a"), (line_of("0..9", "7..8", outlets="b"), "a"),
        ]:
            self.check_all_depths(chart, name)

    def test_many_charts(self):
        for chart in some_charts(250, 27, most=6, top=6, widest=5):
            for name in chart.names():
                if least_water(chart, name) is None:
                    self.assertEqual(raised(self, NoOutlet, land_with_water, chart, name, 0).name, name)
                else:
                    self.check_all_depths(chart, name)

    def test_the_greatest_heights(self):
        chart = line_of(f"{-MOST}..{MOST}", f"{-MOST}..{MOST}", f"{-MOST}", outlets="c")
        for depth in [0, 1, MOST, MOST + 1, 2 * MOST - 1, 2 * MOST]:
            self.assertEqual(water(land_with_water(chart, "a", depth), "a"), depth)
        refused(self, InvalidDepth, lambda value: land_with_water(chart, "a", value), [-1, 2 * MOST + 1, 10 ** 29])

    def test_other_depths(self):
        kinds = [value for value in no_heights() if not isinstance(value, int) or isinstance(value, bool)]
        for name in "abc":
            refused(self, InvalidDepth, lambda value: land_with_water(example(), name, value), kinds)
        refused(self, InvalidDepth, lambda value: land_with_water(example(), "a", value), [0, 9, -1, MOST + 1, True])
        refused(self, InvalidDepth, lambda value: land_with_water(example(), "c", value), [1, -1, False, SomeObject()])

    def test_errors_in_order(self):
        apart = chart_of({"a": "0", "b": "5", "c": "0"}, "ab", "c")
        refused(self, NotChart, lambda value: land_with_water(value, "a", 1), no_charts())
        refused(self, NotChart, lambda value: land_with_water(value, None, None), no_charts())
        refused(self, UnknownPlace, lambda value: land_with_water(apart, value, 0), no_places())
        refused(self, UnknownPlace, lambda value: land_with_water(apart, value, None), no_places())
        for depth in [0, 1, -1, None, True, "0"]:
            self.assertEqual(raised(self, NoOutlet, land_with_water, apart, "b", depth).name, "b")
            self.assertEqual(raised(self, NoOutlet, land_with_water, line_of("0"), "a", depth).name, "a")

    def test_by_name_and_again(self):
        land = land_with_water(depth=4, name="a", chart=example())
        self.assertEqual(water(land, "a"), 4)
        self.assertIs(land == land_with_water(example(), "a", 4), True)


class TestEscape(unittest.TestCase):

    def check_way(self, chart, name):
        way = escape(chart, name)
        level = water_level(dry_land(chart), name)
        if level is None:
            self.assertIs(way, None)
            return
        self.assertIs(is_way(chart, way), True)
        self.assertEqual(way[0], name)
        self.assertIn(way[-1], chart.outlets())
        self.assertEqual(max(chart[other].low for other in way), level)

    def test_ways(self):
        self.assertEqual(escape(example(), "a"), ["a", "b", "c"])
        self.assertEqual(escape(example(), "c"), ["c"])
        self.assertIs(escape(line_of("0", "1"), "a"), None)
        self.assertIs(escape(chart_of({"a": "0", "b": "5", "c": "0"}, "ab", "c"), "b"), None)
        chart = chart_of({"a": "0..9", "b": "5", "c": "4..9", "o": "1"}, "ab bo ac co", "o")
        self.assertEqual(escape(chart, "a"), ["a", "c", "o"])

    def test_many_charts(self):
        for chart in some_charts(250, 28, most=6):
            for name in chart.names():
                self.check_way(chart, name)

    def test_sixty_places(self):
        chart, names = long_line()
        chart = Chart({name: chart[name] for name in names}, chart.ties(), outlets=[names[59]])
        self.assertEqual(escape(chart, names[0]), names)
        self.check_way(chart, names[17])

    def test_lists_that_are_changed_afterwards(self):
        chart = example()
        check_fresh(self, lambda: escape(chart, "a"))
        self.assertEqual(escape(name="b", chart=chart), ["b", "c"])

    def test_errors(self):
        refused(self, NotChart, lambda value: escape(value, "a"), no_charts())
        refused(self, NotChart, lambda value: escape(value, None), no_charts())
        refused(self, UnknownPlace, lambda value: escape(sample(), value), no_places())
        refused(self, UnknownPlace, lambda value: escape(example(), value), ["d", bounds("0")])


if __name__ == "__main__":
    unittest.main()
