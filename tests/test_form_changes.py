"""Forms glued, kept and made short [106], and the last sentence of [11] (c)."""

import random
import unittest

from surehollows.bounds import Bounds
from surehollows.charts import Chart
from surehollows.errors import Mismatch, NotBorder, NotForm, TooLarge
from surehollows.forms import Form, form
from surehollows.sheets import Sheet
from tests.helper import (
    MOST, bounds, chart_of, drawn_places, drawn_sheet, face, many_names, no_lists_or_tuples, no_places, no_sheets, raised,
    refused, sample, some_sheets
)


def plain(names, text="0..5"):
    """A form of border places alone, without ties."""
    return form(Sheet(Chart({name: bounds(text) for name in names}), names))


def drawn_pairs(count, seed, most=8, top=4):
    """Pairs of sheets that can be glued along some common border places."""
    chance = random.Random(seed)
    for turn in range(count):
        borders = drawn_places(chance, chance.sample("pqrstuvw", chance.randint(0, 8)), top)
        left = {name: borders[name] for name in borders if chance.random() < 0.7}
        right = {name: borders[name] for name in borders if chance.random() < 0.7}
        yield (
            drawn_sheet(chance, ["x" + name for name in many_names(chance.randint(0, most))], left, top),
            drawn_sheet(chance, ["y" + name for name in many_names(chance.randint(0, most))], right, top))


def some_of(names, seed):
    chance = random.Random(seed)
    return [name for name in names if chance.random() < 0.5]


class TestGlue(unittest.TestCase):

    def check_equal(self, one, other):
        self.assertIsInstance(one, Form)
        self.assertIs(one == other, True)
        self.assertEqual((one.borders().keys(), one.closed()), (other.borders().keys(), other.closed()))

    def test_two_sheets(self):
        one = Sheet(chart_of({"m": "1..4", "x": "0"}, "mx"), ["m"])
        two = Sheet(chart_of({"m": "1..4", "y": "2..3", "n": "5"}, "my yn", "n"), ["m", "n"])
        found = form(one).glue(form(two))
        self.assertEqual(found.closed(), [(0, 1)])
        self.assertEqual(found.classes(2), [(["m"], 0)])
        self.assertEqual(found.classes(5), [(["m", "n"], "outlet")])
        self.check_equal(form(two).glue(other=form(one)), found)

    def test_many_pairs_in_either_order(self):
        for one, other in drawn_pairs(250, 111):
            whole = form(one.glue(other))
            left, right = form(one), form(other)
            self.check_equal(left.glue(right), whole)
            self.check_equal(right.glue(left), whole)
            self.check_equal(left, form(one))
            self.check_equal(right, form(other))

    def test_three_sheets(self):
        for (one, other), (third, fourth) in zip(drawn_pairs(60, 112), drawn_pairs(60, 113)):
            third = Sheet(third.chart.turned(), [])
            renamed = {name: "z" + name[1:] if len(name) > 1 else name * 3 for name in third.chart.names()}
            places = {renamed[name]: third.chart[name] for name in renamed}
            ties = [(renamed[a], renamed[b]) for a, b in third.chart.ties()]
            last = Sheet(Chart(places, ties), [])
            whole = form(one.glue(other).glue(last))
            self.check_equal(form(one).glue(form(other).glue(form(last))), whole)
            self.check_equal(form(last).glue(form(one)).glue(form(other)), whole)

    def test_the_form_alone_matters(self):
        for one, other in drawn_pairs(80, 114):
            short = form(one).short()
            self.check_equal(form(short).glue(form(other)), form(one.glue(other)))

    def test_more_than_sixty_places(self):
        names = many_names(60)
        border = {"p": bounds("3..7")}
        found = []
        for first in "xyz":
            inner = [first + name for name in names[:59]]
            places = {**border, **{name: Bounds(k % 5, 10 + k) for k, name in enumerate(inner)}}
            ties = [(one, other) for one, other in zip(inner, inner[1:])] + [("p", inner[0])]
            found.append(form(Sheet(Chart(places, ties), ["p"])))
        whole = found[0].glue(found[1]).glue(found[2])
        self.assertEqual(whole.classes(3), [(["p"], None)])
        self.assertEqual(whole.classes(7), [(["p"], 7)])
        self.assertEqual(whole.closed(), sorted(found[0].closed() * 3))
        scattered = form(Sheet(Chart({name: bounds("0") for name in names})))
        self.assertEqual(scattered.glue(scattered).glue(scattered).closed(), [(0, None)] * 180)
        self.assertEqual(scattered.glue(scattered).sure_count(0, 5), 120)

    def test_a_form_and_itself(self):
        sheet = Sheet(chart_of({"m": "1..4", "x": "0"}, "mx"), ["m"])
        renamed = Sheet(chart_of({"m": "1..4", "y": "0"}, "my"), ["m"])
        self.check_equal(form(sheet).glue(form(sheet)), form(sheet.glue(renamed)))

    def test_no_form(self):
        sheet = Sheet(sample(), ["a"])
        refused(self, NotForm, form(sheet).glue, [*no_sheets(), sheet])

    def test_the_first_mismatch(self):
        one = form(Sheet(chart_of({"a": "1", "b": "2", "c": "3"}), list("abc")))
        for texts, name in [
            ({"a": "7"}, "a"), ({"a": "1", "b": "2..3", "c": "4"}, "b"), ({"c": "0..3"}, "c"), ({"z": "1", "c": "4"}, "c"),
            ({"b": "1..2", "a": "0..1"}, "a"),
        ]:
            other = form(Sheet(chart_of(texts), list(texts)))
            self.assertEqual(raised(self, Mismatch, one.glue, other).name, name)
            self.assertEqual(raised(self, Mismatch, other.glue, one).name, name)

    def test_inner_places_of_the_same_name_do_not_matter(self):
        one = Sheet(chart_of({"m": "1..4", "n": "0"}, "mn"), ["m"])
        other = Sheet(chart_of({"m": "1..4", "n": "0..2"}), ["m", "n"])
        renamed = Sheet(chart_of({"m": "1..4", "o": "0"}, "mo"), ["m"])
        self.check_equal(form(one).glue(form(other)), form(renamed.glue(other)))

    def test_eight_and_nine_border_places(self):
        names = many_names(20)
        self.assertEqual(list(plain(names[:5]).glue(plain(names[3:8])).borders()), names[:8])
        for end in [9, 11]:
            self.assertEqual(raised(self, TooLarge, plain(names[:5]).glue, plain(names[3:end])).count, end)
        other = form(Sheet(Chart({name: bounds("0..6") for name in names[7:15]}), names[7:15]))
        self.assertEqual(raised(self, Mismatch, plain(names[:8]).glue, other).name, names[7])


class TestKept(unittest.TestCase):

    def test_many_sheets(self):
        for seed, sheet in enumerate(some_sheets(250, 115)):
            found = form(sheet)
            for names in [[], sheet.borders(), some_of(sheet.borders(), seed), tuple(some_of(sheet.borders(), seed + 1))]:
                self.assertIs(found.kept(names) == form(sheet.kept(names)), True)
                self.assertEqual(found.kept(names).closed(), form(sheet.kept(names)).closed())
            self.assertIs(found == form(sheet), True)

    def test_step_by_step(self):
        for sheet in some_sheets(60, 116):
            found = form(sheet)
            for count in range(len(sheet.borders()), -1, -1):
                names = sheet.borders()[:count]
                found = found.kept(names)
                self.assertIs(found == form(Sheet(sheet.chart, names)), True)

    def test_behind_glue(self):
        for seed, (one, other) in enumerate(drawn_pairs(150, 117)):
            whole = one.glue(other)
            names = some_of(whole.borders(), seed)
            self.assertIs(form(one).glue(form(other)).kept(names) == form(whole.kept(names)), True)
            self.assertIs(form(one).glue(form(other)).kept([]) == form(Sheet(whole.chart)), True)

    def test_names_given_twice_and_in_any_order(self):
        found = plain(list("abcd"))
        for given in [["d", "b"], ("b", "d"), ["b", "d", "d", "b", "b"]]:
            self.assertEqual(list(found.kept(names=given).borders()), ["b", "d"])
        self.assertEqual(list(found.borders()), ["a", "b", "c", "d"])

    def test_errors(self):
        sheet = Sheet(sample(), ["d", "b"])
        found = form(sheet)
        refused(self, NotBorder, found.kept, no_lists_or_tuples())
        for item in [*no_places(), "a", "c", "e", sheet, found]:
            for given in [[item], (item,), ["b", item, "z"], ("d", "b", item, None)]:
                self.assertIs(raised(self, NotBorder, found.kept, given).name, item)
        self.assertEqual(raised(self, NotBorder, found.kept(["d"]).kept, ["b"]).name, "b")
        self.assertIs(found == form(sheet), True)

    def test_what_is_changed_afterwards(self):
        given = ["d"]
        found = plain(list("abcd")).kept(given)
        given.append("b")
        self.assertEqual((list(found.borders()), given), (["d"], ["d", "b"]))


class TestShort(unittest.TestCase):

    def check_short(self, found):
        sheet = found.short()
        self.assertIsInstance(sheet, Sheet)
        self.assertEqual(sheet.borders(), list(found.borders()))
        self.assertEqual([str(sheet.chart[name]) for name in sheet.borders()], [str(it) for it in found.borders().values()])
        self.assertIs(form(sheet) == found, True)
        self.assertEqual(face(found.short()), face(sheet))

    def test_small_sheets(self):
        self.check_short(form(Sheet(Chart({}))))
        for texts, ties, outlets, borders in [
            ({"m": "1..4", "x": "0"}, "mx", "", "m"), ({"m": "1..4", "x": "0"}, "mx", "m", "m"),
            ({"m": "1..4", "x": "0"}, "mx", "x", "m"), ({"m": "1..4", "x": "0..2", "y": "0"}, "mx xy", "", "m"),
            ({"m": "1", "n": "2", "x": "3..4"}, "mx nx", "", "mn"), ({"m": "1", "n": "2"}, "", "mn", "mn"),
            ({"a": "0", "b": "5", "c": "1"}, "ab bc", "", ""), ({"a": "0", "b": "5", "c": "1", "m": "5..9"}, "ab bc bm", "", "m"),
        ]:
            self.check_short(form(Sheet(chart_of(texts, ties, outlets), list(borders))))

    def test_border_places_with_the_first_names(self):
        texts = {"a": "1..4", "b": "0..7", "c": "0", "d": "5..6", "aa": "3"}
        places = {name: bounds(text) for name, text in texts.items()}
        chart = Chart(places, [("a", "c"), ("a", "d"), ("d", "b"), ("d", "aa")])
        self.check_short(form(Sheet(chart, ["a", "b"])))
        self.check_short(form(Sheet(chart, ["aa", "b", "d"])))

    def test_the_greatest_heights(self):
        chart = chart_of({"m": f"{-MOST}..{MOST}", "n": f"{MOST}", "x": f"{-MOST}", "y": f"{MOST}"}, "my ny xy")
        for borders in [[], ["m"], ["n"], ["m", "n"]]:
            self.check_short(form(Sheet(chart, borders)))

    def test_many_sheets(self):
        for seed, sheet in enumerate(some_sheets(250, 118, most=12)):
            self.check_short(form(sheet))
            self.check_short(form(sheet).kept(some_of(sheet.borders(), seed)))

    def test_sheets_of_twenty_places(self):
        chance = random.Random(119)
        for turn in range(150):
            count, top = chance.choice([0, 1, 3, 8]), chance.choice([6, 20, 40])
            borders = drawn_places(chance, "pqrstuvw"[:count], top)
            sheet = drawn_sheet(chance, many_names(20 - count), borders, top)
            self.check_short(form(sheet))
            self.check_short(form(sheet).kept(some_of(sheet.borders(), turn)))

    def test_behind_glue_and_kept(self):
        for seed, (one, other) in enumerate(drawn_pairs(150, 120, most=6, top=8)):
            found = form(one).glue(form(other))
            self.check_short(found)
            self.check_short(found.kept(some_of(found.borders(), seed)))
            self.check_short(form(one).kept(one.borders()).glue(form(other)))

    def test_few_places(self):
        for texts, ties, outlets, count in [
            ({"m": "1..4"}, "", "", 1), ({"m": "1..4", "x": "0..9"}, "mx", "", 1), ({"m": "1..4", "x": "0"}, "", "x", 1),
            ({"m": "1..4"}, "", "m", 2), ({"m": "3..5", "x": "0", "y": "2"}, "mx my", "", 4),
            ({"m": "3..5", "x": "0", "y": "0"}, "mx my", "", 4), ({"m": "3..5", "x": "0", "y": "2"}, "mx my", "m", 4),
            ({"m": "1..4", "a": "0", "b": "5", "c": "1", "d": "2"}, "ab bc bd", "", 5),
            ({"m": "1..4", "a": "0", "b": "3", "c": "1", "d": "3..4"}, "ab bc md", "", 4),
        ]:
            found = form(Sheet(chart_of(texts, ties, outlets), ["m"]))
            self.check_short(found)
            self.assertEqual(len(found.short().chart), count)
        for sheet in some_sheets(100, 120, most=20, top=20):
            self.assertLessEqual(len(form(sheet).short().chart), 2 * len(sheet.chart))

    def test_hollows_that_end_elsewhere_where_a_class_begins(self):
        for a, b, ties, outlets in [
            ("1", "4", "mx xn ab", "b"), ("1", "4", "mx xn ab", ""), ("1..2", "4..8", "mx xn ab", "b"), ("4", "4", "mx xn", ""),
            ("1", "4", "mx xn ab", "bx"), ("1", "4", "mx xn ab", "bm"),
        ]:
            chart = chart_of({"m": "3..9", "n": "2..9", "x": "4..9", "a": a, "b": b, "c": "0"}, ties + " bc", outlets)
            self.check_short(form(Sheet(chart, ["m", "n"])))

    def test_many_hollows_that_end_at_unlike_levels(self):
        names = many_names(19)
        places = {name: Bounds.exact(k if k % 2 == 0 else 100 - k) for k, name in enumerate(names)}
        chart = Chart({**places, "m": bounds("50")}, list(zip(names, names[1:])) + [("m", names[0])])
        for borders in [[], ["m"], names[3:11], names[4:12:2]]:
            self.check_short(form(Sheet(chart, borders)))


if __name__ == "__main__":
    unittest.main()
