"""Charts [3], [21], [22]."""

import itertools
import unittest

from surehollows.bounds import Bounds
from surehollows.charts import MOST_PLACES, Chart, parts_of
from surehollows.errors import InvalidPlaces, InvalidTie, TooLarge, UnknownPlace
from tests.helper import SomeObject, bounds, look, many_names, odd_values, raised, sample


class TestQuestions(unittest.TestCase):

    def test_no_place(self):
        for chart in [Chart({}), Chart({}, []), Chart({}, (), outlets=[]), Chart(places={}, ties=[], outlets=())]:
            self.assertEqual(look(chart), ([], {}, [], [], [], [], 0))
            self.assertIs("a" in chart, False)
            raised(self, UnknownPlace, chart.neighbours, "a")

    def test_one_place(self):
        chart = Chart({"abcdefgh": bounds("-3..5")}, outlets=["abcdefgh"])
        self.assertEqual(look(chart), (
            ["abcdefgh"], {"abcdefgh": "-3..5"}, [], ["abcdefgh"], [[]], [["abcdefgh"]], 1))
        self.assertEqual(Chart({"a": bounds("1")}).outlets(), [])

    def test_several_places(self):
        self.assertEqual(look(sample()), (
            ["a", "b", "c", "d", "e"], {"a": "0..1", "b": "-9..-2", "c": "5", "d": "-4..7", "e": "3..4"},
            [("a", "b"), ("b", "d"), ("c", "e")], ["a", "e"],
            [["b"], ["a", "d"], ["e"], ["b"], ["c"]], [["a", "b", "d"], ["c", "e"]], 5))

    def test_orders(self):
        names = ["z", "b", "aa", "ab", "a", "zz", "ba"]
        ties = [("z", "a"), ("ab", "a"), ("zz", "a"), ("a", "ba"), ("b", "a"), ("zz", "z"), ("ba", "aa")]
        for turn in range(7):
            turned = names[turn:] + names[:turn]
            chart = Chart({name: bounds("0") for name in turned}, ties[turn:] + ties[:turn], outlets=turned[:6])
            self.assertEqual(chart.names(), ["a", "aa", "ab", "b", "ba", "z", "zz"])
            self.assertEqual(chart.ties(), [
                ("a", "ab"), ("a", "b"), ("a", "ba"), ("a", "z"), ("a", "zz"), ("aa", "ba"), ("z", "zz")])
            self.assertEqual(chart.outlets(), sorted(turned[:6]))
            self.assertEqual(chart.neighbours("a"), ["ab", "b", "ba", "z", "zz"])
            self.assertEqual(chart.parts(), [["a", "aa", "ab", "b", "ba", "z", "zz"]])

    def test_kinds_of_what_is_returned(self):
        chart = sample()
        for value in [chart.names(), chart.ties(), chart.outlets(), chart.neighbours("a"), chart.parts()]:
            self.assertIs(type(value), list)
        self.assertTrue(all(type(tie) is tuple for tie in chart.ties()))
        self.assertTrue(all(type(part) is list for part in chart.parts()))
        self.assertIsInstance(chart["a"], Bounds)

    def test_ties_count_once_however_they_are_given(self):
        places = {"a": bounds("0"), "b": bounds("0..1"), "c": bounds("7")}
        plain = Chart(places, [("a", "b"), ("b", "c")])
        for ties in [
            [("b", "c"), ("a", "b")], (("b", "a"), ("c", "b")), [["a", "b"], ["b", "c"]], [["b", "a"], ("b", "c")],
            [("a", "b"), ("a", "b"), ("b", "c")], [("a", "b"), ("b", "a"), ("c", "b"), ["b", "c"], ("a", "b")],
            (["c", "b"], ["c", "b"], ["a", "b"]),
        ]:
            chart = Chart(places, ties)
            self.assertEqual(look(chart), look(plain))
            self.assertIs(chart == plain, True)
            self.assertEqual(chart.ties(), [("a", "b"), ("b", "c")])
            self.assertEqual(chart.neighbours("b"), ["a", "c"])

    def test_outlets_count_once_however_they_are_given(self):
        places = {"a": bounds("0"), "b": bounds("0..1"), "c": bounds("7")}
        for outlets in [["a", "c"], ("c", "a"), ["c", "a", "c", "c", "a"], ("a", "a", "c")]:
            chart = Chart(places, outlets=outlets)
            self.assertEqual(chart.outlets(), ["a", "c"])
            self.assertIs(chart == Chart(places, outlets=["a", "c"]), True)

    def test_parts(self):
        names = list("abcdef")
        places = {name: bounds("0..1") for name in names}
        self.assertEqual(Chart(places).parts(), [["a"], ["b"], ["c"], ["d"], ["e"], ["f"]])
        self.assertEqual(Chart(places, [("f", "a"), ("e", "b")]).parts(), [["a", "f"], ["b", "e"], ["c"], ["d"]])
        ring = [(names[k], names[k - 1]) for k in range(6)]
        self.assertEqual(Chart(places, ring).parts(), [names])
        self.assertEqual(Chart(places, ring[1:3] + ring[4:]).parts(), [["a", "b", "c"], ["d", "e", "f"]])
        self.assertEqual(Chart(places, [("a", "f"), ("f", "c"), ("c", "e")]).parts(), [["a", "c", "e", "f"], ["b"], ["d"]])

    def test_outlets_and_bounds_divide_no_part(self):
        places = {"a": bounds("0"), "b": bounds("900"), "c": bounds("0")}
        self.assertEqual(Chart(places, [("a", "b"), ("b", "c")], outlets=["b"]).parts(), [["a", "b", "c"]])

    def test_all_charts_of_four_places(self):
        pairs = list(itertools.combinations("abcd", 2))
        for chosen in itertools.product([False, True], repeat=6):
            ties = [pair for pair, taken in zip(pairs, chosen) if taken]
            chart = Chart({name: bounds("0") for name in "dbca"}, [pair[::-1] for pair in ties])
            self.assertEqual(chart.ties(), ties)
            for name in "abcd":
                near = [other for other in "abcd" if tuple(sorted((name, other))) in ties]
                self.assertEqual(chart.neighbours(name), near)
            self.assertEqual(chart.parts(), merged([[name] for name in "abcd"], ties))

    def test_parts_of_a_set_of_places(self):
        # No way may leave the set.
        places = {name: bounds("0") for name in "abcdef"}
        chart = Chart(places, [("a", "b"), ("b", "c"), ("c", "d"), ("d", "e"), ("e", "a")])
        for names, parts in [
            ([], []), (["f"], [["f"]]), (["c", "a"], [["a"], ["c"]]), (["e", "a", "c"], [["a", "e"], ["c"]]),
            (["f", "d", "b", "c"], [["b", "c", "d"], ["f"]]), (list("edcba"), [list("abcde")]),
        ]:
            self.assertEqual(parts_of(chart, names), parts)

    def test_contains(self):
        chart = sample()
        for name in ["a", "b", "c", "d", "e"]:
            self.assertIs(name in chart, True)
        for value in [*odd_values(), "f", "z", "ab", 0, 5, ("a", "b"), bounds("0..1"), chart]:
            self.assertIs(value in chart, False, value)

    def test_unknown_places(self):
        chart = sample()
        for value in [*odd_values(), "f", "z", "ab", 0, 5, -1, ("a", "b"), bounds("0..1"), chart]:
            self.assertIs(raised(self, UnknownPlace, chart.neighbours, value).name, value)
            self.assertIs(raised(self, UnknownPlace, lambda at: chart[at], value).name, value)

    def test_by_name_and_by_position(self):
        chart = Chart(ties=[("a", "b")], outlets=["b"], places={"a": bounds("0"), "b": bounds("1")})
        self.assertEqual(chart.neighbours(name="a"), ["b"])
        with self.assertRaises(TypeError):
            Chart({"a": bounds("0")}, [], ["a"])


class TestEquality(unittest.TestCase):

    def test_equal_charts(self):
        self.assertIs(sample() == sample(), True)
        self.assertIs(sample() != sample(), False)
        self.assertIs(Chart({}) == Chart({}, []), True)

    def test_unlike_charts(self):
        places = {"a": bounds("0..1"), "b": bounds("2"), "c": bounds("0..1")}
        charts = [
            Chart({}), Chart(places), Chart(places, [("a", "b")]), Chart(places, [("a", "c")]),
            Chart(places, [("a", "b"), ("a", "c")]), Chart(places, [("a", "b")], outlets=["a"]),
            Chart(places, [("a", "b")], outlets=["c"]), Chart(places, [("a", "b")], outlets=["a", "c"]),
            Chart({**places, "a": bounds("0..2")}, [("a", "b")]), Chart({**places, "a": bounds("1")}, [("a", "b")]),
            Chart({**places, "d": bounds("0")}, [("a", "b")]), Chart({"a": bounds("0..1")}), Chart({"b": bounds("0..1")}),
        ]
        for (k, one), (m, other) in itertools.product(enumerate(charts), enumerate(charts)):
            self.assertIs(one == other, k == m, (k, m))
            self.assertIs(one != other, k != m, (k, m))

    def test_other_values(self):
        for chart in [Chart({}), sample()]:
            for value in [*odd_values(), {}, 0, "a", chart.names(), bounds("0"), look(chart), SomeObject()]:
                self.assertIs(chart == value, False, value)
                self.assertIs(value == chart, False, value)


class TestSizes(unittest.TestCase):

    def test_most_places(self):
        self.assertEqual(MOST_PLACES, 60)

    def test_sixty_places(self):
        names = many_names(60)
        ties = [(names[k], names[k - 1]) for k in range(1, 60)]
        chart = Chart({name: bounds("0..1") for name in names[::-1]}, ties, outlets=names)
        self.assertEqual((len(chart), chart.names(), chart.outlets()), (60, names, names))
        self.assertEqual(chart.ties(), [(one, other) for other, one in ties])
        self.assertEqual(chart.parts(), [names])
        everything = list(itertools.combinations(names, 2))
        self.assertEqual(Chart({name: bounds("0") for name in names}, everything).ties(), everything)

    def test_more_places(self):
        for count in [61, 62, 300]:
            places = {name: bounds("0..1") for name in many_names(count)}
            self.assertEqual(raised(self, TooLarge, Chart, places).count, count)
            self.assertEqual(raised(self, TooLarge, Chart, places, None, outlets=None).count, count)

    def test_many_ties_and_outlets_of_few_places(self):
        places = {"a": bounds("0"), "b": bounds("0")}
        chart = Chart(places, [("a", "b")] * 300, outlets=["b"] * 300)
        self.assertEqual((chart.ties(), chart.outlets()), ([("a", "b")], ["b"]))


class TestCopies(unittest.TestCase):

    def test_what_is_passed_in_stays(self):
        places = {"b": bounds("0..1"), "a": bounds("2"), "c": bounds("3")}
        given = dict(places)
        ties, outlets = [["b", "a"], ("a", "b"), ["c", "a"]], ["c", "b", "c"]
        chart = Chart(places, ties, outlets=outlets)
        look(chart)
        self.assertEqual(list(places.items()), list(given.items()))
        self.assertEqual(ties, [["b", "a"], ("a", "b"), ["c", "a"]])
        self.assertEqual(outlets, ["c", "b", "c"])

    def test_changes_of_what_was_passed_in(self):
        places = {"b": bounds("0..1"), "a": bounds("2"), "c": bounds("3")}
        ties, outlets = [["b", "a"], ["c", "a"]], ["c", "b"]
        chart = Chart(places, ties, outlets=outlets)
        before = look(chart)
        places["a"] = bounds("7")
        places["d"] = bounds("7")
        del places["b"]
        ties[0][0] = "c"
        ties.pop()
        outlets.clear()
        self.assertEqual(look(chart), before)

    def test_changes_of_what_was_returned(self):
        chart = sample()
        before = look(chart)
        for call in [chart.names, chart.ties, chart.outlets, chart.parts, lambda: chart.neighbours("b")]:
            self.assertIsNot(call(), call())
            call().append("x")
            call().clear()
            self.assertEqual(look(chart), before)
        chart.parts()[0].append("x")
        chart.parts()[1].clear()
        self.assertEqual(look(chart), before)
        self.assertIs(chart == sample(), True)


class TestWrongArguments(unittest.TestCase):

    def test_no_dict(self):
        for places in [None, True, 0, "a", [], [("a", bounds("0"))], (), ("a",), bounds("0"), sample(), SomeObject()]:
            self.assertIs(raised(self, InvalidPlaces, Chart, places).value, places)

    def test_no_names(self):
        for key in ["", "A", "abcdefghi", "a b", "a1", "a\n", 0, 1, 5, None, True, ("a",)]:
            for places in [{key: bounds("0")}, {"a": bounds("0"), key: bounds("0")}, {key: bounds("0"), "a": bounds("0")}]:
                self.assertIs(raised(self, InvalidPlaces, Chart, places).value, places)

    def test_no_bounds(self):
        for value in [*odd_values(), 0, 5, "3..5", (3, 5), [3, 5], sample()]:
            for places in [{"a": value}, {"a": bounds("0"), "b": value}, {"b": value, "a": bounds("0")}]:
                self.assertIs(raised(self, InvalidPlaces, Chart, places).value, places)

    def test_no_list_of_ties(self):
        for ties in [None, True, 0, "", "ab", {}, {"a": "b"}, {("a", "b"): 1}, bounds("0"), sample(), SomeObject()]:
            self.assertIs(raised(self, InvalidTie, Chart, sides(), ties).value, ties)

    def test_no_ties(self):
        items = [
            *odd_values(), 0, "ab", "a", ("a",), ["a", "b", "c"], ("a", "b", "b"), ("a", "a"), ["b", "b"], ("a", "z"),
            ("z", "a"), ("z", "y"), ("a", 1), (1, "a"), ("a", None), ("a", ["b"]), ([], "a"), ({}, {}), (None, None),
            {"a": "b"}, {"a": 1, "b": 2}, (("a", "b"), ("b", "c")), ("a", ""), ("a", "A"), bounds("0"), sample(),
        ]
        for item in items:
            for ties in [[item], (item,), [("a", "b"), item, ("a", "z"), None], ((["a", "b"]), item, "ab")]:
                self.assertIs(raised(self, InvalidTie, Chart, sides(), ties).value, item)

    def test_no_tie_without_places(self):
        tie = ("a", "b")
        self.assertIs(raised(self, InvalidTie, Chart, {}, [tie]).value, tie)

    def test_no_list_of_outlets(self):
        for outlets in [None, True, 0, "", "a", "ab", {}, {"a": 1}, bounds("0"), sample(), SomeObject()]:
            self.assertIs(raised(self, UnknownPlace, Chart, sides(), outlets=outlets).name, outlets)

    def test_no_outlets(self):
        for item in [*odd_values(), 0, "z", "ab", ("a", "b"), bounds("0"), sample()]:
            for outlets in [[item], (item,), ["a", item, "z", None], ("c", "c", item, "y")]:
                self.assertIs(raised(self, UnknownPlace, Chart, sides(), outlets=outlets).name, item)
        self.assertEqual(raised(self, UnknownPlace, Chart, {}, outlets=["a"]).name, "a")

    def test_the_first_error_is_raised(self):
        large = {name: bounds("0") for name in many_names(61)}
        for wrong in [{**large, "A": bounds("0")}, {**large, "zz": None}]:
            self.assertIs(raised(self, InvalidPlaces, Chart, wrong, None, outlets=None).value, wrong)
        self.assertIs(raised(self, InvalidPlaces, Chart, None, None, outlets=None).value, None)
        self.assertEqual(raised(self, TooLarge, Chart, large, [("a", "a")], outlets=["A"]).count, 61)
        self.assertEqual(raised(self, InvalidTie, Chart, sides(), "ties", outlets="outlets").value, "ties")
        self.assertEqual(raised(self, InvalidTie, Chart, sides(), [("a", "a")], outlets=["A"]).value, ("a", "a"))
        self.assertEqual(raised(self, UnknownPlace, Chart, sides(), [("a", "b")], outlets=["A"]).name, "A")

    def test_wrong_arguments_stay(self):
        ties, outlets = [["a", "b"], ["a", "a"]], ["a", "z"]
        raised(self, InvalidTie, Chart, sides(), ties)
        raised(self, UnknownPlace, Chart, sides(), outlets=outlets)
        self.assertEqual((ties, outlets), ([["a", "b"], ["a", "a"]], ["a", "z"]))


def sides():
    return {"a": bounds("0..1"), "b": bounds("2"), "c": bounds("-3..5")}


def merged(groups, ties):
    """The parts, found by merging groups of names tie by tie."""
    for one, other in ties:
        left = next(group for group in groups if one in group)
        right = next(group for group in groups if other in group)
        if left != right:
            groups = [group for group in groups if group not in (left, right)] + [sorted(left + right)]
    return sorted(groups)


if __name__ == "__main__":
    unittest.main()
