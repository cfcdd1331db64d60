"""Ways, passes and rims [41] to [43]."""

import itertools
import unittest

from surehollows.charts import Chart
from surehollows.errors import InvalidHeight, NotChart, NotLand, UnknownPlace
from surehollows.lands import Land
from surehollows.passes import high_pass, high_way, is_rim, is_way, low_pass, low_way, pass_level, rim
from tests import reference
from tests.helper import (
    MOST, chart_of, check_fresh, lands_of, levels_around, line_of, long_line, look, no_charts, no_heights, no_lands,
    no_lists, no_places, odd_values, refused, sample, some_charts, some_lands
)


def ring():
    """A ring of the places a to e, an outlet among them, and a place apart."""
    texts = {"a": "0..2", "b": "3..8", "c": "1", "d": "2..9", "e": "4..5", "f": "0"}
    return chart_of(texts, "ab bc cd de ea", "c")


def odd_items():
    """Items of any kind that are no places of the charts here."""
    return [*no_places(), [], ["a"], [["a"]], {}, {"a": 1}, None, 3, True, ("a",), "ab", ""]


class TestWays(unittest.TestCase):

    def test_ways(self):
        for way in [["a"], ["f"], ["a", "b"], ["b", "a"], list("abcde"), list("edcba"), list("cba"), list("aed")]:
            self.assertIs(is_way(ring(), way), True)

    def test_all_lists_of_places(self):
        chart = chart_of({name: "0" for name in "abcd"}, "ab bc cd da ac", "b")
        ways = [way for name in "abcd" for way in reference.ways(chart, name)]
        for length in range(6):
            for names in itertools.product("abcd", repeat=length):
                self.assertIs(is_way(chart, list(names)), list(names) in ways, names)

    def test_the_empty_list(self):
        self.assertIs(is_way(ring(), []), False)
        self.assertIs(is_way(Chart({}), []), False)

    def test_a_place_twice(self):
        for value in [["a", "a"], ["a", "b", "a"], list("abcdea"), ["f", "f"], ["a", "b", "b", "c"]]:
            self.assertIs(is_way(ring(), value), False)

    def test_places_that_are_not_tied(self):
        for value in [["a", "c"], ["a", "f"], ["f", "a"], ["a", "b", "d"], ["b", "a", "d"], ["a", "b", "c", "f"]]:
            self.assertIs(is_way(ring(), value), False)

    def test_values_that_are_no_list(self):
        for value in [*no_lists(), ("a", "b"), "a", "abc", {"a": "b"}, {0: "a"}, ring(), Land.lowest(ring())]:
            self.assertIs(is_way(ring(), value), False)

    def test_items_of_any_kind(self):
        for item in odd_items():
            for value in [[item], ["a", item], [item, "b"], ["a", "b", item], [item, item], ["a", item, "c"]]:
                self.assertIs(is_way(ring(), value), False)

    def test_no_chart(self):
        refused(self, NotChart, lambda value: is_way(value, ["a"]), no_charts())
        refused(self, NotChart, lambda value: is_way(value, None), no_charts())

    def test_the_list_stays(self):
        value = list("abc")
        self.assertIs(is_way(value=value, chart=ring()), True)
        self.assertEqual(value, list("abc"))


class TestPasses(unittest.TestCase):

    def test_a_ring(self):
        land = Land(ring(), {"a": 1, "b": 7, "c": 1, "d": 3, "e": 5, "f": 0})
        for one, other, level in [
            ("a", "a", 1), ("b", "b", 7), ("a", "b", 7), ("a", "c", 5), ("a", "d", 5), ("c", "d", 3), ("e", "d", 5),
            ("b", "d", 7), ("f", "f", 0), ("a", "f", None), ("f", "c", None),
        ]:
            self.assertEqual(pass_level(land, one, other), level)
            self.assertEqual(pass_level(land, other, one), level)

    def test_low_and_high(self):
        for one, other, low, high in [
            ("a", "c", 3, 8), ("a", "a", 0, 2), ("b", "b", 3, 8), ("a", "d", 3, 9), ("d", "e", 4, 9), ("a", "e", 4, 5),
            ("a", "b", 3, 8), ("a", "f", None, None), ("f", "f", 0, 0),
        ]:
            self.assertEqual((low_pass(ring(), one, other), high_pass(ring(), one, other)), (low, high))
            self.assertEqual((low_pass(ring(), other, one), high_pass(ring(), other, one)), (low, high))

    def test_low_and_high_ways(self):
        self.assertEqual((low_way(ring(), "a", "c"), high_way(ring(), "a", "c")), (list("abc"), list("abc")))
        self.assertEqual((low_way(ring(), "a", "d"), high_way(ring(), "e", "b")), (list("abcd"), list("eab")))
        self.assertEqual((low_way(ring(), "f", "f"), high_way(ring(), "b", "b")), (["f"], ["b"]))
        self.assertIs(low_way(ring(), "a", "f"), None)
        self.assertIs(high_way(ring(), "f", "a"), None)

    def test_by_the_definition(self):
        for seed, chart in enumerate(some_charts(120, 3, most=5)):
            lows, highs = reference.lows(chart), reference.highs(chart)
            lands = some_lands(chart, 4, seed)
            for one, other in itertools.product(chart.names(), repeat=2):
                self.assertEqual(low_pass(chart, one, other), reference.least_pass(chart, lows, one, other))
                self.assertEqual(high_pass(chart, one, other), reference.least_pass(chart, highs, one, other))
                for land in lands:
                    self.assertEqual(
                        pass_level(land, one, other), reference.least_pass(chart, land.heights(), one, other))
                self.check_ways(chart, one, other)

    def check_ways(self, chart, one, other):
        for way_of, pass_of, heights in [
            (low_way, low_pass, reference.lows(chart)), (high_way, high_pass, reference.highs(chart)),
        ]:
            way = way_of(chart, one, other)
            if pass_of(chart, one, other) is None:
                self.assertIs(way, None)
            else:
                self.assertIs(is_way(chart, way), True)
                self.assertEqual((way[0], way[-1]), (one, other))
                self.assertEqual(reference.top_of(heights, way), pass_of(chart, one, other))

    def test_all_levels_between(self):
        for chart in some_charts(60, 4):
            lands = lands_of(chart)[:60]
            for one, other in itertools.product(chart.names(), repeat=2):
                low, high = low_pass(chart, one, other), high_pass(chart, one, other)
                if low is None:
                    self.assertEqual([pass_level(land, one, other) for land in lands], [None] * len(lands))
                    continue
                for land in lands:
                    self.assertTrue(low <= pass_level(land, one, other) <= high)
                for height in range(low, high + 1):
                    self.assertEqual(pass_level(Land.clipped(chart, height), one, other), height)

    def test_the_greatest_heights(self):
        chart = line_of(str(-MOST), f"{-MOST}..{MOST}", str(-MOST))
        self.assertEqual((low_pass(chart, "a", "c"), high_pass(chart, "a", "c")), (-MOST, MOST))

    def test_sixty_places(self):
        chart, names = long_line()
        self.assertEqual(low_way(chart, names[0], names[59]), names)
        self.assertEqual(high_way(chart, names[59], names[3]), names[3:][::-1])
        self.assertEqual(pass_level(Land.lowest(chart), names[59], names[4]), 995)

    def test_by_name(self):
        land = Land.lowest(ring())
        self.assertEqual(pass_level(other="c", one="a", land=land), 3)
        self.assertEqual(low_pass(other="c", one="a", chart=ring()), 3)
        self.assertEqual(high_pass(other="c", one="a", chart=ring()), 8)
        self.assertEqual(low_way(other="c", one="a", chart=ring()), list("abc"))
        self.assertEqual(high_way(other="c", one="a", chart=ring()), list("abc"))

    def test_lists_that_are_changed_afterwards(self):
        chart = ring()
        check_fresh(self, lambda: low_way(chart, "a", "d"))
        check_fresh(self, lambda: high_way(chart, "a", "d"))
        self.assertEqual(look(chart), look(ring()))

    def test_errors(self):
        refused(self, NotLand, lambda value: pass_level(value, "a", "b"), no_lands())
        refused(self, NotLand, lambda value: pass_level(value, None, None), no_lands())
        land = Land.lowest(ring())
        refused(self, UnknownPlace, lambda value: pass_level(land, value, "b"), no_places())
        refused(self, UnknownPlace, lambda value: pass_level(land, value, ()), no_places())
        refused(self, UnknownPlace, lambda value: pass_level(land, "a", value), no_places())
        for call in [low_pass, high_pass, low_way, high_way]:
            refused(self, NotChart, lambda value: call(value, "a", "b"), [*no_charts(), land])
            refused(self, NotChart, lambda value: call(value, None, None), no_charts())
            refused(self, UnknownPlace, lambda value: call(ring(), value, "b"), no_places())
            refused(self, UnknownPlace, lambda value: call(ring(), value, ()), no_places())
            refused(self, UnknownPlace, lambda value: call(ring(), "a", value), no_places())


class TestRims(unittest.TestCase):

    def test_levels(self):
        chart = line_of("0..9", "3", "1", "2..7", "-4")
        for name, level, names in [
            ("a", -1, []), ("a", 0, []), ("a", 1, ["a"]), ("a", 3, ["a"]), ("a", 4, list("abcde")), ("a", 9, list("abcde")),
            ("b", 3, []), ("b", 4, list("abcde")), ("c", 1, []), ("c", 2, ["c"]), ("c", 3, list("cde")), ("d", 2, []),
            ("d", 3, list("cde")), ("e", -4, []), ("e", -3, ["e"]), ("e", 2, ["e"]), ("a", MOST, list("abcde")),
            ("a", -MOST, []),
        ]:
            self.assertEqual(rim(chart, name, level), names, (name, level))

    def test_by_the_definition(self):
        for chart in some_charts(150, 5, most=5):
            for name, level in itertools.product(chart.names(), levels_around()):
                self.assertEqual(rim(chart, name, level), reference.rim(chart, name, level))

    def test_no_land_has_a_lower_pass_out_of_it(self):
        for seed, chart in enumerate(some_charts(40, 6)):
            for land in some_lands(chart, 4, seed):
                for name, level in itertools.product(chart.names(), levels_around()):
                    inside = rim(chart, name, level)
                    levels = [pass_level(land, name, other) for other in chart.names() if other not in inside]
                    self.assertTrue(all(found is None or found >= level for found in levels))

    def test_outlets_play_no_role(self):
        self.assertEqual(rim(line_of("0", "1", "0", outlets="bc"), "a", 2), ["a", "b", "c"])

    def test_by_name(self):
        self.assertEqual(rim(level=1, name="a", chart=line_of("0", "5")), ["a"])

    def test_lists_that_are_changed_afterwards(self):
        chart = line_of("0", "1", "5")
        check_fresh(self, lambda: rim(chart, "a", 2))

    def test_errors(self):
        for call in [rim, lambda chart, name, level: is_rim(chart, name, level, [])]:
            refused(self, NotChart, lambda value: call(value, "a", 0), no_charts())
            refused(self, NotChart, lambda value: call(value, None, None), no_charts())
            refused(self, UnknownPlace, lambda value: call(ring(), value, 0), no_places())
            refused(self, UnknownPlace, lambda value: call(ring(), value, None), no_places())
            refused(self, InvalidHeight, lambda value: call(ring(), "a", value), no_heights())


def is_rim_by_definition(chart, name, level, names):
    """[43] for a list of unlike places."""
    if name not in names and chart[name].low < level:
        return False
    return all(
        other in names or chart[other].low >= level for inside in names for other in chart.neighbours(inside))


class TestIsRim(unittest.TestCase):

    def test_the_rim_in_any_order(self):
        chart = line_of("0..9", "3", "1", "2..7", "-4")
        for order in itertools.permutations("cde"):
            self.assertIs(is_rim(chart, "c", 3, list(order)), True)
        for name, level in itertools.product("abcde", range(-5, 12)):
            self.assertIs(is_rim(chart, name, level, rim(chart, name, level)[::-1]), True)

    def test_a_place_left_out_put_in_or_twice(self):
        chart = line_of("0..9", "3", "1", "2..7", "-4")
        for value, told in [
            (["c", "d"], False), (["c", "e"], False), (["d", "e"], False), (["c", "d", "e", "b"], False),
            (["b", "c", "d", "e", "a"], True), (["c", "d", "e", "a"], True), (["c", "d", "e", "c"], False),
            (["c", "c", "d", "e"], False), ([], False), (["a"], False),
        ]:
            self.assertIs(is_rim(chart, "c", 3, value), told, value)

    def test_the_empty_list(self):
        chart = line_of("0..9", "3")
        for level, told in [(-1, True), (0, True), (1, False), (9, False)]:
            self.assertIs(is_rim(chart, "a", level, []), told)

    def test_places_that_are_not_in_the_rim(self):
        chart = line_of("0", "7", "7", "0", "7", "2")
        # The low bounds of b and c are at least the level; so are those of all around.
        for value, told in [
            (["a"], True), (["a", "b"], True), (["a", "b", "c"], False), (["a", "c"], False), (["a", "e"], False),
            (["a", "b", "c", "d"], True), (["a", "d"], True), (["a", "f"], True), (["a", "f", "e"], False),
            (["b"], False), (["a", "b", "f"], True),
        ]:
            self.assertIs(is_rim(chart, "a", 5, value), told, value)
        self.assertIs(is_rim(chart, "b", 5, []), True)
        self.assertIs(is_rim(chart, "b", 5, ["b"]), False)
        self.assertIs(is_rim(chart, "b", 5, ["f"]), True)
        self.assertIs(is_rim(chart, "b", 5, ["c", "d"]), True)

    def test_all_lists_of_unlike_places(self):
        for chart in some_charts(40, 7):
            for length in range(5):
                for names in itertools.permutations(chart.names(), length):
                    for name, level in itertools.product(chart.names(), range(-1, 5)):
                        told = is_rim_by_definition(chart, name, level, names)
                        self.assertIs(is_rim(chart, name, level, list(names)), told)
                        if told:
                            self.assertTrue(set(rim(chart, name, level)) <= set(names))

    def test_values_that_are_no_list(self):
        chart = line_of("0", "5")
        for value in [*no_lists(), ("a",), {"a": 1}, chart]:
            self.assertIs(is_rim(chart, "a", 1, value), False)
            self.assertIs(is_rim(chart, "a", -1, value), False)

    def test_items_of_any_kind(self):
        chart = line_of("0", "5")
        for item in [*odd_items(), "c"]:
            for value in [["a", item], [item, "a"], [item], ["a", item, item]]:
                self.assertIs(is_rim(chart, "a", 1, value), False)
                self.assertIs(is_rim(chart, "a", -1, value), False)

    def test_errors_come_ahead_of_the_value(self):
        for value in odd_values():
            refused(self, NotChart, lambda chart: is_rim(chart, "a", 0, value), [None, sample().names()])
            refused(self, UnknownPlace, lambda name: is_rim(ring(), name, 0, value), [None, "z"])
            refused(self, InvalidHeight, lambda level: is_rim(ring(), "a", level, value), [None, True])

    def test_the_list_stays(self):
        value = ["c", "a"]
        self.assertIs(is_rim(value=value, level=3, name="a", chart=line_of("0", "3", "1")), True)
        self.assertEqual(value, ["c", "a"])


if __name__ == "__main__":
    unittest.main()
