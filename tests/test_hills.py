"""Hills, sure hills and the level land [91], [92]."""

import random
import unittest

from surehollows.bounds import Bounds
from surehollows.charts import Chart
from surehollows.errors import NotChart, NotLand, UnknownPlace
from surehollows.hills import hills, level_land, sure_hills
from surehollows.lands import Land, hollows
from surehollows.sure import sure_hollows
from tests import reference
from tests.helper import (
    MOST, SomeObject, bounds, chart_of, check_fresh, lands_of, line_of, long_line, look, no_charts, no_lands, odd_values,
    raised, refused, sample, some_charts, some_lands
)


def hills_by_rule(chart, joins, tops, outlets):
    """Hills from their description: joins tells at which level a place joins from above, tops at which it begins."""
    def is_over(name, level):
        joined = [other for other in joins if joins[other] >= level]
        part = next(part for part in reference.parts(chart, joined) if name in part)
        return any(other in outlets or (-tops[other], other) < (-tops[name], name) for other in part)

    found = []
    for name in joins:
        if not is_over(name, tops[name]):
            levels = range(tops[name], min(joins.values()) - 1, -1)
            found.append((name, tops[name], next((level for level in levels if is_over(name, level)), None)))
    return sorted(found, key=lambda hill: (-hill[1], hill[0]))


def turned_by_hand(chart, outlets):
    places = {name: Bounds(-chart[name].high, -chart[name].low) for name in chart.names()}
    return Chart(places, chart.ties(), outlets=outlets)


def some_outlets(chart, chance):
    return [name for name in chart.names() if chance.random() < chance.choice([0, 0.4])]


def upside_down(found):
    return [(name, -birth, None if death is None else -death) for name, birth, death in found]


def shape(found):
    """The tops and feet of hills, without the names of the peaks."""
    return sorted([(top, foot is None, foot or 0) for peak, top, foot in found])


def lasting(found, depth):
    """How many hills have a foot that is None or lie more than depth above it."""
    return len([top for peak, top, foot in found if foot is None or top - foot > depth])


class TestHills(unittest.TestCase):

    def test_a_line(self):
        land = Land.lowest(line_of("5", "1", "7", "2", "6"))
        self.assertEqual(hills(land), [("c", 7, None), ("e", 6, 2), ("a", 5, 1)])
        self.assertEqual(hills(land, outlets=["a"]), [("c", 7, 1), ("e", 6, 2)])
        self.assertEqual(hills(land, outlets=("d",)), [("c", 7, 2), ("e", 6, 2), ("a", 5, 1)])
        self.assertEqual(hills(land, outlets=["c", "e"]), [("a", 5, 1)])

    def test_of_equally_high_hills_the_lesser_name_stays(self):
        land = Land.lowest(line_of("4", "1", "4", "0", "4"))
        self.assertEqual(hills(land), [("a", 4, None), ("c", 4, 1), ("e", 4, 0)])
        land = Land.lowest(line_of("4", "4", "3"))
        self.assertEqual(hills(land), [("a", 4, None)])

    def test_equal_tops_come_by_name(self):
        land = Land.lowest(chart_of({"d": "3", "b": "3", "c": "9", "a": "-1"}))
        self.assertEqual(hills(land), [("c", 9, None), ("b", 3, None), ("d", 3, None), ("a", -1, None)])

    def test_the_outlets_of_the_chart_play_no_role(self):
        plain, drained = line_of("5", "1", "7"), line_of("5", "1", "7", outlets="abc")
        self.assertEqual(hills(Land.lowest(drained)), hills(Land.lowest(plain)))
        self.assertEqual(hills(Land.lowest(drained), outlets=["a"]), [("c", 7, 1)])
        self.assertEqual(sure_hills(drained), [("c", 7, None), ("a", 5, 1)])
        self.assertIs(level_land(drained) == Land.lowest(drained), True)

    def test_outlets_given_twice_and_as_tuple(self):
        chart = line_of("2..5", "0..1", "7..8", "1..6", "6")
        for given in [["a"], ("a",), ["a", "a"], ("a", "a", "a")]:
            self.assertEqual(hills(Land.lowest(chart), outlets=given), [("c", 7, 0), ("e", 6, 1)])
            self.assertEqual(sure_hills(chart, outlets=given), [("c", 7, 1)])
            self.assertIs(level_land(chart, outlets=given) == level_land(chart, outlets=["a"]), True)
        self.assertEqual(hills(Land.lowest(chart), outlets=[]), hills(Land.lowest(chart)))

    def test_many_lands_by_the_description(self):
        chance = random.Random(91)
        for seed, chart in enumerate(some_charts(150, 91, most=6)):
            for land in some_lands(chart, 3, seed):
                for outlets in [[], some_outlets(chart, chance)]:
                    heights = land.heights()
                    found = hills(land, outlets=outlets)
                    self.assertEqual(found, hills_by_rule(chart, heights, heights, outlets))
                    turned = turned_by_hand(chart, outlets)
                    negated = Land(turned, {name: -heights[name] for name in heights})
                    self.assertEqual(upside_down(found), hollows(negated))

    def test_many_charts_by_the_description(self):
        chance = random.Random(92)
        for chart in some_charts(250, 92, most=6):
            for outlets in [[], chart.outlets(), some_outlets(chart, chance)]:
                found = sure_hills(chart, outlets=outlets)
                lows, highs = reference.lows(chart), reference.highs(chart)
                self.assertEqual(found, hills_by_rule(chart, highs, lows, outlets))
                self.assertEqual(upside_down(found), sure_hollows(turned_by_hand(chart, outlets)))

    def test_exact_bounds_have_the_hills_of_the_only_land(self):
        for seed, chart in enumerate(some_charts(60, 93, most=6)):
            for land in some_lands(chart, 3, seed):
                for outlets in [[], chart.names()[:1]]:
                    self.assertEqual(sure_hills(land.pinned(), outlets=outlets), hills(land, outlets=outlets))

    def test_small_and_great(self):
        self.assertEqual((hills(Land(Chart({}), {})), sure_hills(Chart({}))), ([], []))
        self.assertEqual(sure_hills(line_of("3..7")), [("a", 3, None)])
        self.assertEqual(sure_hills(line_of("3..7"), outlets=["a"]), [])
        wide = line_of(f"{MOST}", f"{-MOST}", f"0..{MOST}")
        self.assertEqual(sure_hills(wide), [("a", MOST, None), ("c", 0, -MOST)])
        chart, names = long_line()
        found = hills(Land.lowest(chart))
        self.assertEqual((len(found), found[0]), (30, (names[1], 999, None)))
        self.assertEqual(sure_hills(chart), found)


class TestLevelLand(unittest.TestCase):

    def test_lines(self):
        chart = line_of("2..5", "0..1", "7..8", "1..6", "6")
        self.assertEqual(level_land(chart).heights(), {"a": 2, "b": 1, "c": 7, "d": 6, "e": 6})
        self.assertEqual(level_land(chart, outlets=["b"]).heights(), {"a": 2, "b": 1, "c": 7, "d": 6, "e": 6})
        self.assertEqual(level_land(line_of("0..3", "5", "2..3"), outlets=["a"]).heights(), {"a": 3, "b": 5, "c": 3})
        self.assertEqual(level_land(line_of("4..9")).heights(), {"a": 4})
        self.assertEqual(level_land(line_of("4..9"), outlets=["a"]).heights(), {"a": 9})
        self.assertEqual(level_land(Chart({})).heights(), {})

    def test_its_hills_are_the_sure_hills(self):
        chance = random.Random(94)
        for chart in some_charts(250, 94, most=7):
            for outlets in [[], some_outlets(chart, chance)]:
                land = level_land(chart, outlets=outlets)
                self.assertIsInstance(land, Land)
                self.assertIs(land.chart == chart, True)
                found = hills(land, outlets=outlets)
                self.assertEqual(shape(found), shape(sure_hills(chart, outlets=outlets)))

    def test_no_land_has_fewer_hills(self):
        chance = random.Random(95)
        for seed, chart in enumerate(some_charts(80, 95, most=4, top=2, widest=2)):
            for outlets in [[], some_outlets(chart, chance)]:
                least = hills(level_land(chart, outlets=outlets), outlets=outlets)
                for land in lands_of(chart)[:60]:
                    found = hills(land, outlets=outlets)
                    for depth in range(4):
                        self.assertLessEqual(lasting(least, depth), lasting(found, depth))

    def test_no_larger_land_has_fewer_hills(self):
        for seed, chart in enumerate(some_charts(60, 96, most=8, top=6, widest=6)):
            least = hills(level_land(chart))
            for land in some_lands(chart, 10, seed):
                for depth in range(8):
                    self.assertLessEqual(lasting(least, depth), lasting(hills(land), depth))


class TestArguments(unittest.TestCase):

    def test_no_land_and_no_chart_first(self):
        refused(self, NotLand, hills, no_lands())
        for call in [sure_hills, level_land]:
            refused(self, NotChart, call, no_charts())
        for given in [None, ["z"], "a"]:
            refused(self, NotLand, lambda value: hills(value, outlets=given), no_lands())
            for call in [sure_hills, level_land]:
                refused(self, NotChart, lambda value: call(value, outlets=given), no_charts())

    def test_unknown_outlets(self):
        chart = sample()
        calls = [lambda given: hills(Land.lowest(chart), outlets=given)]
        calls += [lambda given: sure_hills(chart, outlets=given), lambda given: level_land(chart, outlets=given)]
        for call in calls:
            for given in [None, True, False, 0, "", "a", {}, {"a": 1}, bounds("0"), chart, SomeObject()]:
                self.assertIs(raised(self, UnknownPlace, call, given).name, given)
            for item in [*odd_values(), 0, "z", bounds("0"), chart, Land.lowest(chart)]:
                for given in [[item], (item,), ["a", item, "z"], ("b", "a", item, None)]:
                    self.assertIs(raised(self, UnknownPlace, call, given).name, item)

    def test_by_name_alone_behind_the_star(self):
        chart = sample()
        self.assertEqual(hills(outlets=["b"], land=Land.lowest(chart)), hills(Land.lowest(chart), outlets=["b"]))
        self.assertEqual(sure_hills(outlets=["b"], chart=chart), sure_hills(chart, outlets=["b"]))
        self.assertIs(level_land(outlets=["b"], chart=chart) == level_land(chart, outlets=["b"]), True)
        for call, given in [(hills, Land.lowest(chart)), (sure_hills, chart), (level_land, chart)]:
            with self.assertRaises(TypeError):
                call(given, ["b"])

    def test_nothing_is_changed(self):
        chart, outlets = sample(), ["b", "b"]
        before = look(chart)
        land = Land.lowest(chart)
        check_fresh(self, lambda: hills(land, outlets=outlets))
        check_fresh(self, lambda: sure_hills(chart, outlets=outlets))
        level_land(chart, outlets=outlets).heights().clear()
        self.assertEqual((look(chart), outlets, land.heights()), (before, ["b", "b"], Land.lowest(chart).heights()))
        self.assertIs(land.chart == chart, True)


if __name__ == "__main__":
    unittest.main()
