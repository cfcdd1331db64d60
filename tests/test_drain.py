"""Takers of water, and why an outlet takes none [81] to [85]."""

import itertools
import unittest

from surehollows.charts import Chart
from surehollows.drain import alone, is_why_not, land_for, may_take, takers, why_not
from surehollows.errors import NotChart, NotLand, UnknownPlace
from surehollows.lands import Land
from tests import reference
from tests.helper import (
    MOST, bounds, chart_of, check_fresh, lands_of, line_of, long_line, look, no_charts, no_heights, no_lands, no_lists,
    no_places, odd_values, refused, sample, some_charts, some_lands
)


def example():
    return chart_of({"a": "0..4", "o": "5", "p": "1..6"}, "ao op ap", "op")


def far():
    return chart_of({"a": "0..4", "o": "5", "p": "1..4"}, "ao ap", "op")


def wet_charts(count, seed):
    """Some charts in which about half of the places are outlets."""
    charts = []
    for chart in some_charts(count, seed, most=5):
        names = chart.names()
        places = {name: chart[name] for name in names}
        charts.append(Chart(places, chart.ties(), outlets=names[::2] if len(names) % 2 else names[1:3]))
    return charts


class TestTakers(unittest.TestCase):

    def test_equal_and_unlike_passes(self):
        for heights, name, found in [
            ([0, 3, 1, 3, 2], "c", ["a", "e"]), ([0, 3, 1, 2, 2], "c", ["e"]), ([0, 2, 1, 3, 2], "c", ["a"]),
            ([9, 3, 1, 3, 2], "c", ["e"]), ([9, 3, 1, 3, 9], "c", ["a", "e"]), ([9, 3, 10, 3, 2], "c", ["a", "e"]),
            ([0, 3, 1, 3, 2], "b", ["a", "e"]), ([0, 3, 1, 4, 2], "b", ["a"]), ([0, 3, 1, 3, 2], "a", ["a"]),
            ([0, 3, 1, 3, 2], "e", ["e"]),
        ]:
            land = Land.lowest(line_of(*[str(height) for height in heights], outlets="ae"))
            self.assertEqual(takers(land, name), found)

    def test_a_course_goes_through_no_other_outlet(self):
        land = Land.lowest(line_of("3", "0", "1", "0", outlets="cd"))
        self.assertEqual([takers(land, name) for name in "abcd"], [["c"], ["c"], ["c"], ["d"]])
        # Round the outlet c the way to d is higher.
        land = Land.lowest(chart_of({"a": "0", "c": "1", "d": "0", "e": "2"}, "ac cd ae ed", "cd"))
        self.assertEqual(takers(land, "a"), ["c"])
        land = Land.lowest(chart_of({"a": "0", "c": "2", "d": "0", "e": "1"}, "ac cd ae ed", "cd"))
        self.assertEqual(takers(land, "a"), ["d"])
        land = Land.lowest(chart_of({"a": "0", "c": "2", "d": "0", "e": "2"}, "ac cd ae ed", "cd"))
        self.assertEqual(takers(land, "a"), ["c", "d"])

    def test_an_outlet_takes_its_own_water_alone(self):
        land = Land.lowest(line_of("5", "0", "5", outlets="abc"))
        self.assertEqual([takers(land, name) for name in "abc"], [["a"], ["b"], ["c"]])

    def test_no_course(self):
        land = Land.lowest(chart_of({"a": "0", "b": "5", "c": "0"}, "ab", "c"))
        self.assertEqual([takers(land, name) for name in "abc"], [[], [], ["c"]])

    def test_by_the_definition(self):
        for seed, chart in enumerate(some_charts(100, 29, most=5) + wet_charts(100, 30)):
            for land in some_lands(chart, 4, seed):
                for name in chart.names():
                    self.assertEqual(takers(land, name), reference.takers(land, name))

    def test_sixty_places(self):
        chart, names = long_line()
        chart = Chart({name: chart[name] for name in names}, chart.ties(), outlets=[names[0], names[59]])
        land = Land.lowest(chart)
        self.assertEqual(takers(land, names[2]), [names[59]])
        self.assertEqual(takers(land, names[1]), sorted([names[0], names[59]]))

    def test_lists_that_are_changed_afterwards(self):
        land = Land.lowest(example())
        check_fresh(self, lambda: takers(land, "a"))
        self.assertEqual(takers(name="a", land=land), ["p"])

    def test_errors(self):
        land = Land.lowest(example())
        refused(self, NotLand, lambda value: takers(value, "a"), no_lands())
        refused(self, NotLand, lambda value: takers(value, None), no_lands())
        refused(self, UnknownPlace, lambda value: takers(land, value), no_places())


class TestMayTake(unittest.TestCase):

    def test_charts(self):
        for chart, name, outlets, only in [
            (example(), "a", ["o", "p"], None), (example(), "o", ["o"], "o"), (far(), "a", ["p"], "p"),
            (far(), "o", ["o"], "o"), (line_of("0", "1"), "a", [], None), (line_of("0..9", "5", outlets="b"), "a", ["b"], "b"),
            (line_of("1..2", "0", "2..3", outlets="ac"), "b", ["a", "c"], None),
            (line_of("1..2", "0", "3..4", outlets="ac"), "b", ["a"], "a"),
            (line_of("2", "0", "2", outlets="ac"), "b", ["a", "c"], None),
            (line_of("1..2", "0..2", "2..4", outlets="ac"), "b", ["a", "c"], None),
            (line_of("1..2", "0", "3", "0", outlets="ad"), "b", ["a"], "a"),
        ]:
            self.assertEqual(may_take(chart, name), outlets)
            self.assertEqual(alone(chart, name), only)

    def test_by_all_lands(self):
        for chart in some_charts(60, 31, top=2, widest=2) + wet_charts(60, 32):
            lands = lands_of(chart)[:200]
            complete = len(lands) < 200
            for name in chart.names():
                found = [takers(land, name) for land in lands]
                told = sorted({outlet for outlets in found for outlet in outlets})
                self.assertTrue(set(told) <= set(may_take(chart, name)))
                if complete:
                    self.assertEqual(may_take(chart, name), told)
                    only = [outlet for outlet in told if all(outlets == [outlet] for outlets in found)]
                    self.assertEqual(alone(chart, name), only[0] if only else None)

    def test_no_place(self):
        refused(self, UnknownPlace, lambda value: may_take(Chart({}), value), ["a", None])

    def test_lists_that_are_changed_afterwards(self):
        chart = example()
        check_fresh(self, lambda: may_take(chart, "a"))
        self.assertEqual((may_take(name="a", chart=chart), alone(name="o", chart=chart)), (["o", "p"], "o"))

    def test_errors(self):
        for call in [may_take, alone]:
            refused(self, NotChart, lambda value: call(value, "a"), no_charts())
            refused(self, NotChart, lambda value: call(value, None), no_charts())
            refused(self, UnknownPlace, lambda value: call(example(), value), no_places())


class TestLandFor(unittest.TestCase):

    def test_each_outlet(self):
        for chart in some_charts(150, 33, most=5) + wet_charts(150, 34):
            for name, outlet in itertools.product(chart.names(), chart.outlets()):
                land = land_for(chart, name, outlet)
                if outlet in may_take(chart, name):
                    self.assertIs(land.chart == chart, True)
                    self.assertIn(outlet, reference.takers(land, name))
                else:
                    self.assertIs(land, None)

    def test_charts(self):
        self.assertIn("o", takers(land_for(example(), "a", "o"), "a"))
        self.assertIn("p", takers(land_for(outlet="p", name="a", chart=example()), "a"))
        self.assertIs(land_for(far(), "a", "o"), None)
        self.assertIs(land_for(far(), "p", "o"), None)
        self.assertIs(land_for(chart_of({"a": "0", "b": "5", "c": "0"}, "ab", "c"), "a", "c"), None)
        self.assertIs(land_for(example(), "a", "o") == land_for(example(), "a", "o"), True)


class TestErrors(unittest.TestCase):

    def test_errors(self):
        for call in [land_for, why_not, lambda chart, name, outlet: is_why_not(chart, name, outlet, None)]:
            refused(self, NotChart, lambda value: call(value, "a", "o"), no_charts())
            refused(self, NotChart, lambda value: call(value, None, None), no_charts())
            refused(self, UnknownPlace, lambda value: call(example(), value, "o"), no_places())
            refused(self, UnknownPlace, lambda value: call(example(), value, ()), no_places())
            refused(self, UnknownPlace, lambda value: call(example(), "a", value), no_places())
            refused(self, UnknownPlace, lambda value: call(example(), "a", value), ["a", "z", ["o"], ("o",)])
            refused(self, UnknownPlace, lambda value: call(line_of("0", "1"), "a", value), ["a", "b", None])

    def test_they_come_ahead_of_the_value(self):
        for value in [None, ("p", ["a", "p"], 4, ["a", "p"])]:
            refused(self, NotChart, lambda chart: is_why_not(chart, "a", "o", value), [None])
            refused(self, UnknownPlace, lambda name: is_why_not(far(), name, "o", value), [None, "z"])
            refused(self, UnknownPlace, lambda outlet: is_why_not(far(), "a", outlet, value), [None, "z", "a"])


class TestWhyNot(unittest.TestCase):

    def test_just_where_the_outlet_may_not(self):
        for chart in some_charts(150, 35, most=5) + wet_charts(150, 36):
            for name, outlet in itertools.product(chart.names(), chart.outlets()):
                found = why_not(chart, name, outlet)
                if outlet in may_take(chart, name):
                    self.assertIs(found, None)
                else:
                    self.assertIs(is_why_not(chart, name, outlet, found), True)
                    self.check_reasons(chart, name, outlet, found)

    def check_reasons(self, chart, name, outlet, found):
        self.assertIs(type(found), tuple)
        other, course, level, places = found
        inner = [place for place in places if place not in chart.outlets()]
        around = [near for place in inner for near in chart.neighbours(place) if near not in places]
        self.assertTrue(name in places and outlet not in places and len(set(places)) == len(places))
        self.assertTrue(all(chart[near].low > level for near in around))
        if reference.courses(chart, name):
            self.assertTrue(other in chart.outlets() and other != outlet and course in reference.courses(chart, name))
            self.assertTrue(course[-1] == other and all(chart[place].high <= level for place in course))
        else:
            self.assertEqual((other, course, level, inner), (None, [], MOST, places))

    def test_charts(self):
        other, course, level, places = why_not(far(), "a", "o")
        self.assertEqual((other, course, level, sorted(places)), ("p", ["a", "p"], 4, ["a", "p"]))
        self.assertEqual(why_not(far(), "p", "o"), ("p", ["p"], 4, ["p"]))
        self.assertEqual(why_not(outlet="o", name="a", chart=far()), why_not(far(), "a", "o"))
        apart = chart_of({"a": "0", "b": "5", "c": "0", "d": "1"}, "ab cd", "c")
        self.assertEqual(why_not(apart, "a", "c"), (None, [], MOST, ["a", "b"]))
        for name, outlet in [("a", "o"), ("a", "p"), ("o", "o"), ("p", "p")]:
            self.assertIs(why_not(example(), name, outlet), None)

    def test_no_course_to_the_outlet_itself(self):
        # Every way to d goes through the outlet c.
        found = why_not(line_of("3", "0", "1..2", "0", outlets="cd"), "a", "d")
        self.assertEqual(found[:3], ("c", ["a", "b", "c"], 3))
        self.assertEqual(sorted(found[3]), ["a", "b", "c"])

    def test_the_greatest_heights(self):
        chart = line_of(f"{MOST}", "0", f"{-MOST}..{MOST - 1}", outlets="ac")
        found = why_not(chart, "b", "a")
        self.assertEqual(found[:3], ("c", ["b", "c"], MOST - 1))
        self.assertIs(is_why_not(chart, "b", "a", found), True)

    def test_lists_that_are_changed_afterwards(self):
        chart = far()
        check_fresh(self, lambda: why_not(chart, "a", "o"))
        apart = chart_of({"a": "0", "b": "5", "c": "0"}, "ab", "c")
        check_fresh(self, lambda: why_not(apart, "a", "c"))
        self.assertEqual(look(chart), look(far()))


def wide():
    """From a the outlet p takes the water below the level 4, o none; q lies behind p, and r lies apart."""
    texts = {"a": "0..3", "b": "1..4", "c": "2..9", "o": "5", "p": "1..4", "q": "0", "r": "0", "s": "6..7"}
    return chart_of(texts, "ab bp ac co pq as so", "opqr")


class TestIsWhyNot(unittest.TestCase):

    def test_values(self):
        for value in [
            ("p", ["a", "b", "p"], 4, ["a", "b", "c", "p"]), ("p", ["a", "b", "p"], 4, ["p", "c", "b", "a"]),
            ("p", ["a", "b", "p"], 4, ["a", "b", "c", "p", "q"]), ("p", ["a", "b", "p"], 4, ["a", "b", "c", "p", "r"]),
            ("p", ["a", "b", "p"], 4, ["a", "b", "c", "p", "s"]),
        ]:
            self.assertIs(is_why_not(wide(), "a", "o", value), True, value)
        self.assertIs(is_why_not(wide(), "p", "o", ("p", ["p"], 4, ["p"])), True)
        self.assertIs(is_why_not(wide(), "p", "o", ("p", ["p"], MOST, ["p", "q"])), True)

    def test_each_clause(self):
        course, places = ["a", "b", "p"], ["a", "b", "c", "p"]
        for value in [
            ("o", course, 4, places), ("q", course, 4, places), ("a", course, 4, places), ("r", course, 4, places),
            ("o", ["a", "c", "o"], 9, places), ("r", ["r"], 4, places), ("p", ["b", "p"], 4, places),
            ("p", ["p"], 4, places), ("b", ["a", "b"], 4, places), ("p", ["a", "b"], 4, places), ("p", [], 4, places),
            ("q", ["a", "b", "p", "q"], 4, places + ["q"]), ("p", ["a", "p"], 4, places),
            ("p", ["a", "b", "b", "p"], 4, places), ("p", ["a", "b", "a", "b", "p"], 4, places),
            ("p", ("a", "b", "p"), 4, places), ("p", ["p", "b", "a"], 4, places), ("p", course, 3, places),
            ("p", course, 5, places), ("p", course, 6, places), ("p", course, MOST, places), ("p", course, 0, places),
            ("p", course, 4, ["a", "b", "p"]), ("p", course, 4, ["a", "b", "c"]), ("p", course, 4, ["b", "c", "p"]),
            ("p", course, 4, ["a", "c", "p"]), ("p", course, 4, []), ("p", course, 4, ["a", "b", "c", "p", "o"]),
            ("p", course, 4, ["a", "b", "c", "p", "a"]), ("p", course, 4, tuple(places)), ("p", course, 4, places + ["z"]),
            ("p", course, 4, ["p"]), ("p", course, True, places), ("p", course, "4", places), ("p", course, None, places),
            ("p", course, MOST + 1, places), ("p", course, -MOST - 1, places), (None, course, 4, places),
            (None, [], 4, places), (None, [], MOST, places), (None, [], MOST, ["a", "b", "c", "s"]),
            ("p", course, 5, places + ["s"]),
        ]:
            self.assertIs(is_why_not(wide(), "a", "o", value), False, value)

    def test_levels(self):
        chart = line_of("5..9", "0..3", "1..2", outlets="ac")
        for level, told in [(2, False), (3, True), (4, True), (5, False), (9, False), (-MOST, False)]:
            self.assertIs(is_why_not(chart, "b", "a", ("c", ["b", "c"], level, ["b", "c"])), told)

    def test_no_outlet_can_be_reached(self):
        chart = chart_of({"a": "0", "b": f"{MOST}", "c": "0", "d": "1", "e": "3"}, "ab cd", "c")
        for value, told in [
            ((None, [], MOST, ["a", "b"]), True), ((None, [], MOST, ["b", "a"]), True), ((None, [], MOST, ["b", "a", "e"]), True),
            ((None, [], MOST, ["a"]), False), ((None, [], MOST, ["b"]), False), ((None, [], MOST, []), False),
            ((None, [], MOST - 1, ["a", "b"]), False), ((None, [], MOST - 1, ["a"]), False), ((None, [], MOST + 1, ["a", "b"]), False),
            ((None, [], None, ["a", "b"]), False), ((None, (), MOST, ["a", "b"]), False), ((None, ["a"], MOST, ["a", "b"]), False),
            ((None, None, MOST, ["a", "b"]), False), ((None, [None], MOST, ["a", "b"]), False), ((None, "", MOST, ["a", "b"]), False),
            ((None, {}, MOST, ["a", "b"]), False), ((None, [], MOST, ["a", "b", "c", "d"]), False),
            ((None, [], MOST, ["a", "b", "d"]), False), ((None, [], MOST, ("a", "b")), False), ((None, [], MOST, ["a", "b", "b"]), False),
            (("c", [], MOST, ["a", "b"]), False), ((False, [], MOST, ["a", "b"]), False), (("", [], MOST, ["a", "b"]), False),
        ]:
            self.assertIs(is_why_not(chart, "a", "c", value), told, value)

    def test_an_outlet_among_the_places_without_another_one(self):
        # The outlet d shuts the places off from c, but it takes the water itself.
        chart = line_of("0", "1", "0", "1", outlets="bd")
        self.assertIs(is_why_not(chart, "a", "d", (None, [], MOST, ["a", "b"])), False)
        self.assertIs(is_why_not(chart, "a", "d", ("b", ["a", "b"], MOST, ["a", "b"])), True)
        self.assertIs(is_why_not(chart, "a", "b", (None, [], MOST, ["a"])), False)

    def test_an_outlet_that_is_the_place_itself(self):
        for value in [("p", ["p"], 4, ["p"]), (None, [], MOST, ["p"]), ("o", ["p", "o"], 9, ["p", "o"])]:
            self.assertIs(is_why_not(example(), "p", "p", value), False)

    def test_values_of_any_kind(self):
        good = ("p", ["a", "p"], 4, ["a", "p"])
        self.assertIs(is_why_not(far(), "a", "o", good), True)
        values = [*odd_values(), *no_lists(), 0, list(good), good[:3], good + (1,), good[:1], (), (good,), [good]]
        values += [{"a": good}, far(), Land.lowest(far()), bounds("0")]
        for value in values:
            self.assertIs(is_why_not(far(), "a", "o", value), False)

    def test_items_of_any_kind(self):
        good = ["p", ["a", "p"], 4, ["a", "p"]]
        items = [*no_places(), *no_lists(), *no_heights(), 3, 5, [], [[]], ["a"], ["z"], [None, None], {"a": "p"}]
        for item in [item for item in items if item != "a"]:
            for index in range(4):
                value = tuple(good[:index] + [item] + good[index + 1:])
                self.assertIs(is_why_not(far(), "a", "o", value), False, value)
            for value in [("p", ["a", item], 4, good[3]), ("p", [item, "p"], 4, good[3]), ("p", ["a", item, "p"], 4, good[3])]:
                self.assertIs(is_why_not(far(), "a", "o", value), False, value)
            for value in [("p", good[1], 4, ["a", item]), ("p", good[1], 4, [item, "p"]), ("p", good[1], 4, ["a", "p", item])]:
                self.assertIs(is_why_not(far(), "a", "o", value), False, value)

    def test_the_outlet_takes_no_water_where_it_is_true(self):
        told = 0
        for seed, chart in enumerate(some_charts(30, 37, most=3) + wet_charts(40, 38)):
            if len(chart) > 4:
                continue
            lists = [list(names) for k in range(len(chart) + 1) for names in itertools.combinations(chart.names(), k)]
            lands = some_lands(chart, 4, seed)
            for name, outlet in itertools.product(chart.names(), chart.outlets()):
                found = False
                for course in reference.courses(chart, name) + [[]]:
                    other = course[-1] if course else None
                    for level, places in itertools.product([*range(-1, 4), MOST], lists):
                        if is_why_not(chart, name, outlet, (other, course, level, places)):
                            found = True
                            told += 1
                if found:
                    self.assertTrue(all(outlet not in reference.takers(land, name) for land in lands))
                self.assertIs(found, outlet not in may_take(chart, name))
        self.assertGreater(told, 100)

    def test_the_value_stays(self):
        value = ("p", ["a", "p"], 4, ["p", "a"])
        self.assertIs(is_why_not(value=value, outlet="o", name="a", chart=far()), True)
        self.assertEqual(value, ("p", ["a", "p"], 4, ["p", "a"]))


if __name__ == "__main__":
    unittest.main()
