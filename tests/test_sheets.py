"""Sheets, glued and kept [101] to [103]."""

import random
import unittest

from surehollows.bounds import Bounds
from surehollows.charts import Chart
from surehollows.errors import DuplicateName, Mismatch, NotBorder, NotChart, NotSheet, TooLarge, UnknownPlace
from surehollows.sheets import MOST_BORDERS, Sheet
from tests.helper import (
    bounds, chart_of, check_fresh, face, line_of, look, many_names, no_charts, no_lists_or_tuples, no_places, no_sheets,
    raised, refused, sample, some_charts
)


def plain(names, borders):
    """A sheet of places without ties, all of the same bounds."""
    return Sheet(Chart({name: bounds("0..5") for name in names}), borders)


class TestSheet(unittest.TestCase):

    def test_the_limit(self):
        self.assertEqual(MOST_BORDERS, 8)

    def test_borders_and_inner_places(self):
        chart = sample()
        sheet = Sheet(chart, ["d", "a"])
        self.assertIs(sheet.chart == chart, True)
        self.assertEqual((sheet.borders(), sheet.inner()), (["a", "d"], ["b", "c", "e"]))
        sheet = Sheet(borders=("e", "b", "e"), chart=chart)
        self.assertEqual((sheet.borders(), sheet.inner()), (["b", "e"], ["a", "c", "d"]))
        for sheet in [Sheet(chart), Sheet(chart, []), Sheet(chart, ())]:
            self.assertEqual((sheet.borders(), sheet.inner()), ([], ["a", "b", "c", "d", "e"]))
        sheet = Sheet(chart, chart.names()[::-1])
        self.assertEqual((sheet.borders(), sheet.inner()), (["a", "b", "c", "d", "e"], []))
        self.assertEqual(face(Sheet(Chart({}))), (look(Chart({})), [], []))

    def test_eight_and_nine_border_places(self):
        names = many_names(60)
        chart = Chart({name: bounds("0") for name in names})
        self.assertEqual(Sheet(chart, names[20:28]).borders(), names[20:28])
        self.assertEqual(Sheet(chart, names[20:28] * 3).borders(), names[20:28])
        for count in [9, 10, 60]:
            self.assertEqual(raised(self, TooLarge, Sheet, chart, names[:count]).count, count)
            self.assertEqual(raised(self, TooLarge, Sheet, chart, names[:count] * 4).count, count)

    def test_errors_in_order(self):
        for borders in [(), None, ["z"], "a", 0]:
            refused(self, NotChart, lambda value: Sheet(value, borders), no_charts())
        refused(self, NotChart, lambda value: Sheet(value), [*no_charts(), Sheet(sample())])
        refused(self, UnknownPlace, lambda value: Sheet(sample(), value), no_lists_or_tuples())
        for item in [*no_places(), Sheet(sample())]:
            for borders in [[item], (item,), ["a", item, "y"], ("a", "b", item, None)]:
                self.assertIs(raised(self, UnknownPlace, Sheet, sample(), borders).name, item)
        names = many_names(12)
        chart = Chart({name: bounds("0") for name in names})
        self.assertEqual(raised(self, UnknownPlace, Sheet, chart, [*names, "z"]).name, "z")

    def test_equal_and_unlike_sheets(self):
        def made(text="0..3", ties="ab bc", outlets="a", borders=("a", "b")):
            return Sheet(chart_of({"a": "1", "b": text, "c": "5"}, ties, outlets), borders)

        one = made()
        self.assertIs(one == made(borders=["b", "a", "b"]), True)
        self.assertIs(one != made(), False)
        for other in [
            made(borders=["a"]), made(borders=[]), made(borders=["a", "b", "c"]), made(borders=["a", "c"]),
            made(text="0..4"), made(text="1..3"), made(ties="ab"), made(ties="ab bc ac"), made(outlets=""),
            made(outlets="ab"), made(outlets="c"), Sheet(sample(), ["a", "b"]), Sheet(Chart({})),
        ]:
            self.assertIs(one == other, False)
            self.assertIs(one != other, True)
        for other in [*no_sheets(), one.chart]:
            self.assertIs(one == other, False)

    def test_what_is_changed_afterwards(self):
        borders = ["d", "a"]
        sheet = Sheet(sample(), borders)
        before = face(sheet)
        borders.append("b")
        check_fresh(self, sheet.borders)
        check_fresh(self, sheet.inner)
        self.assertEqual((face(sheet), borders), (before, ["d", "a", "b"]))


class TestGlue(unittest.TestCase):

    def check_glue(self, one, other, expected):
        before = face(one), face(other)
        for sheet in [one.glue(other), other.glue(one), one.glue(other=other)]:
            self.assertIsInstance(sheet, Sheet)
            self.assertEqual(face(sheet), face(expected))
        self.assertIs(one.glue(other) == other.glue(one), True)
        self.assertEqual((face(one), face(other)), before)

    def test_no_common_place(self):
        one = Sheet(chart_of({"a": "1", "b": "0..3"}, "ab", "a"), ["b"])
        other = Sheet(chart_of({"c": "2", "d": "4"}, "cd"), ["c"])
        self.check_glue(one, other, Sheet(chart_of({"a": "1", "b": "0..3", "c": "2", "d": "4"}, "ab cd", "a"), ["b", "c"]))
        self.check_glue(one, Sheet(Chart({})), one)
        self.check_glue(Sheet(Chart({})), Sheet(Chart({})), Sheet(Chart({})))

    def test_one_common_place(self):
        one = Sheet(chart_of({"a": "1", "m": "0..3"}, "am"), ["m"])
        other = Sheet(chart_of({"c": "2", "m": "0..3"}, "cm", "m"), ["m"])
        self.check_glue(one, other, Sheet(chart_of({"a": "1", "c": "2", "m": "0..3"}, "am cm", "m"), ["m"]))

    def test_many_common_places(self):
        one = Sheet(chart_of({"a": "1", "m": "0..3", "n": "5", "o": "-2"}, "am mn an", "n"), ["m", "n", "o"])
        other = Sheet(
            chart_of({"m": "0..3", "n": "5", "o": "-2", "p": "4", "q": "3"}, "nm op pq", "oq"), list("mnop"))
        expected = chart_of(
            {"a": "1", "m": "0..3", "n": "5", "o": "-2", "p": "4", "q": "3"}, "am mn an op pq", "noq")
        self.check_glue(one, other, Sheet(expected, list("mnop")))

    def test_a_sheet_without_inner_places_and_itself(self):
        for sheet in [Sheet(Chart({})), Sheet(sample(), sample().names())]:
            self.check_glue(sheet, sheet, sheet)

    def test_drawn_sheets(self):
        chance = random.Random(102)
        for chart in some_charts(60, 102, most=8):
            names = chart.names()
            both = [name for name in names if chance.random() < 0.4]
            sides = {name: chance.choice([0, 1]) for name in names if name not in both}
            halves = []
            for side in [0, 1]:
                places = {name: chart[name] for name in names if sides.get(name, side) == side}
                ties = [tie for tie in chart.ties() if tie[0] in places and tie[1] in places]
                outlets = [name for name in chart.outlets() if name in places]
                halves.append(Sheet(Chart(places, ties, outlets=outlets), both))
            ties = [tie for half in halves for tie in half.chart.ties()]
            places = {name: chart[name] for name in names}
            self.check_glue(*halves, Sheet(Chart(places, ties, outlets=chart.outlets()), both))

    def test_no_sheet(self):
        refused(self, NotSheet, Sheet(sample(), ["a"]).glue, no_sheets())

    def test_duplicate_names_and_mismatches_place_by_place(self):
        def made(texts, borders):
            return Sheet(chart_of(texts), list(borders))

        one = made({"a": "1", "b": "2", "c": "3"}, "abc")
        for texts, borders, kind, name in [
            ({"a": "1", "x": "2"}, "x", DuplicateName, "a"), ({"a": "7"}, "", DuplicateName, "a"),
            ({"a": "7"}, "a", Mismatch, "a"), ({"a": "7", "b": "2"}, "a", Mismatch, "a"),
            ({"a": "1", "b": "7", "c": "3"}, "ab", Mismatch, "b"), ({"a": "1", "b": "2..3", "c": "3"}, "abc", Mismatch, "b"),
            ({"a": "1", "b": "1..2", "c": "3"}, "ac", DuplicateName, "b"), ({"b": "2", "c": "9"}, "b", DuplicateName, "c"),
            ({"a": "1", "b": "2", "c": "3..4"}, "abc", Mismatch, "c"),
        ]:
            other = made(texts, borders)
            before = face(one), face(other)
            self.assertEqual(raised(self, kind, one.glue, other).name, name)
            self.assertEqual(raised(self, kind, other.glue, one).name, name)
            self.assertEqual((face(one), face(other)), before)

    def test_sixty_and_sixty_one_places(self):
        names = many_names(70)
        one = plain(names[:35], names[30:35])
        self.assertEqual(len(one.glue(plain(names[30:60], names[30:35])).chart), 60)
        for end in [61, 64]:
            other = plain(names[30:end], names[30:35])
            self.assertEqual(raised(self, TooLarge, one.glue, other).count, end)
            self.assertEqual(raised(self, TooLarge, other.glue, one).count, end)
        self.assertEqual(raised(self, TooLarge, plain(names[:60], []).glue, plain(names[60:61], [])).count, 61)

    def test_eight_and_nine_border_places(self):
        names = many_names(20)
        one = plain(names[:6], names[:5])
        self.assertEqual(one.glue(plain(names[3:5] + names[6:9], names[3:5] + names[6:9])).borders(), names[:5] + names[6:9])
        other = plain(names[3:5] + names[6:12], names[3:5] + names[6:12])
        self.assertEqual(raised(self, TooLarge, one.glue, other).count, 11)
        self.assertEqual(raised(self, TooLarge, plain(names[:8], names[:8]).glue, plain(["z"], ["z"])).count, 9)

    def test_too_many_places_come_before_too_many_borders(self):
        names = many_names(70)
        one, other = plain(names[:40], names[:8]), plain(names[40:], names[40:48])
        self.assertEqual(raised(self, TooLarge, one.glue, other).count, 70)
        self.assertEqual(raised(self, TooLarge, one.glue, plain(names[40:60], names[40:48])).count, 16)

    def test_names_come_before_numbers(self):
        names = many_names(70)
        one = plain(names[:40], names[:8])
        self.assertEqual(raised(self, DuplicateName, one.glue, plain(names[39:], names[40:48])).name, names[39])
        other = plain(names[7:67], [names[7], *names[50:57]])
        self.assertEqual(raised(self, DuplicateName, one.glue, other).name, names[8])
        other = Sheet(Chart({name: bounds("0..6") for name in [names[7], *names[40:]]}), [names[7], *names[50:57]])
        self.assertEqual(raised(self, Mismatch, one.glue, other).name, names[7])


class TestKept(unittest.TestCase):

    def test_some_all_and_none(self):
        sheet = Sheet(sample(), ["d", "b", "a"])
        before = face(sheet)
        for given, borders in [
            ([], []), ((), []), (["a"], ["a"]), (("d", "a"), ["a", "d"]), (["b", "b", "a", "b"], ["a", "b"]),
            (["d", "a", "b"], ["a", "b", "d"]), (("a", "b", "d"), ["a", "b", "d"]), (sheet.borders() * 5, ["a", "b", "d"]),
        ]:
            for kept in [sheet.kept(given), sheet.kept(names=given)]:
                self.assertIsInstance(kept, Sheet)
                self.assertEqual(face(kept), face(Sheet(sample(), borders)))
                self.assertIs(kept == Sheet(sample(), borders), True)
        self.assertEqual(face(sheet), before)
        self.assertEqual(face(Sheet(Chart({})).kept([])), face(Sheet(Chart({}))))

    def test_kept_twice(self):
        sheet = Sheet(sample(), ["a", "b", "d"]).kept(["a", "b"]).kept(["b"])
        self.assertEqual(face(sheet), face(Sheet(sample(), ["b"])))

    def test_errors(self):
        sheet = Sheet(sample(), ["d", "b"])
        before = face(sheet)
        refused(self, NotBorder, sheet.kept, no_lists_or_tuples())
        for item in [*no_places(), "a", "c", "e", sheet]:
            for given in [[item], (item,), ["b", item, "z"], ("d", "b", item, None)]:
                self.assertIs(raised(self, NotBorder, sheet.kept, given).name, item)
        self.assertEqual(raised(self, NotBorder, sheet.kept(["d"]).kept, ["b"]).name, "b")
        self.assertEqual(face(sheet), before)

    def test_what_is_changed_afterwards(self):
        given = ["d"]
        kept = Sheet(sample(), ["d", "b"]).kept(given)
        given.append("b")
        self.assertEqual((kept.borders(), given), (["d"], ["d", "b"]))

    def test_bounds_stay_the_same_values(self):
        chart = Chart({"a": Bounds(0, 1)})
        self.assertIs(Sheet(chart, ["a"]).kept([]).chart == chart, True)


class TestLongLines(unittest.TestCase):

    def test_lines_of_thirty_places(self):
        names = many_names(60)
        whole = Chart({name: bounds("0..5") for name in names}, list(zip(names, names[1:])))
        first = Sheet(Chart({name: bounds("0..5") for name in names[:31]}, list(zip(names[:30], names[1:31]))), [names[30]])
        last = Sheet(Chart({name: bounds("0..5") for name in names[30:]}, list(zip(names[30:], names[31:]))), [names[30]])
        self.assertEqual(face(first.glue(last)), face(Sheet(whole, [names[30]])))
        self.assertEqual(line_of("0").names(), Sheet(line_of("0"), ["a"]).borders())


if __name__ == "__main__":
    unittest.main()
