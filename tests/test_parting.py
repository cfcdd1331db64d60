"""Sheets that are equal everywhere, or parted by a company [111], [112], [11] (c)."""

import random
import unittest

from surehollows.bounds import Bounds
from surehollows.charts import Chart
from surehollows.errors import Mismatch, NotSheet
from surehollows.forms import form
from surehollows.parting import equal_everywhere, parting
from surehollows.sheets import Sheet
from surehollows.sure import sure_count
from tests import reference
from tests.helper import (
    bounds, chart_of, drawn_bounds, drawn_places, drawn_sheet, face, level_pairs, line_of, many_names, no_sheets, raised,
    refused, sample
)


def remade(sheet, places=None, ties=None, outlets=None):
    """The sheet with other places, ties or outlets."""
    chart = sheet.chart
    old = {name: chart[name] for name in chart.names()}
    made = Chart(
        old if places is None else places, chart.ties() if ties is None else ties,
        outlets=chart.outlets() if outlets is None else outlets)
    return Sheet(made, sheet.borders())


def without_or_with(items, item):
    return [other for other in items if other != item] if item in items else [*items, item]


def varied(sheet, chance, top):
    """The sheet with one bound of an inner place, one tie or one outlet changed."""
    names = sheet.chart.names()
    kind = chance.choice(["bounds", "tie", "outlet"])
    if kind == "bounds" and sheet.inner():
        return Sheet(sheet.chart.with_bounds(chance.choice(sheet.inner()), drawn_bounds(chance, top)), sheet.borders())
    if kind == "tie" and len(names) > 1:
        return remade(sheet, ties=without_or_with(sheet.chart.ties(), tuple(sorted(chance.sample(names, 2)))))
    return remade(sheet, outlets=without_or_with(sheet.chart.outlets(), chance.choice(names)) if names else [])


def drawn_pairs(count, seed, counts=(0, 1, 2, 3, 8), most=12, top=3):
    """Pairs of sheets with the same border places, many of them nearly alike."""
    chance = random.Random(seed)
    for turn in range(count):
        borders = drawn_places(chance, "pqrstuvw"[:chance.choice(counts)], top)
        one = drawn_sheet(chance, many_names(chance.randint(0, most)), borders, top)
        if chance.random() < 0.7:
            other = varied(one, chance, top)
        else:
            other = drawn_sheet(chance, many_names(chance.randint(0, most)), borders, top)
        yield one, other, chance


class TestEqualEverywhere(unittest.TestCase):

    def check(self, one, other, equal):
        before = face(one), face(other)
        self.assertIs(equal_everywhere(one, other), equal)
        self.assertIs(equal_everywhere(other=one, one=other), equal)
        self.assertEqual((face(one), face(other)), before)

    def test_a_sheet_itself_and_its_short_sheet(self):
        for one, other, chance in drawn_pairs(80, 121):
            self.check(one, one, True)
            self.check(one, form(one).short(), True)

    def test_other_inner_names(self):
        for one, other, chance in drawn_pairs(60, 122):
            renamed = {name: name if name in one.borders() else "z" + name[::-1] for name in one.chart.names()}
            places = {renamed[name]: one.chart[name] for name in renamed}
            ties = [(renamed[a], renamed[b]) for a, b in one.chart.ties()]
            self.check(one, remade(one, places, ties, [renamed[name] for name in one.chart.outlets()]), True)

    def test_a_place_that_changes_nothing(self):
        one = Sheet(chart_of({"m": "1..4", "n": "3..9", "x": "2..3"}, "mx xn"), ["m", "n"])
        for text, ties, outlets in [
            ("4", "my", ""), ("3..9", "my", ""), ("3..4", "my yn", ""), ("0", "", "y"), ("2..3", "xy", ""), ("9..12", "ym xy ny", ""),
        ]:
            chart = chart_of({"m": "1..4", "n": "3..9", "x": "2..3", "y": text}, "mx xn " + ties, outlets)
            self.check(one, Sheet(chart, ["m", "n"]), True)

    def test_one_thing_changed(self):
        def made(x="2..3", y="0", ties="mx nx my", outlets=""):
            return Sheet(chart_of({"m": "1..4", "n": "3..9", "x": x, "y": y}, ties, outlets), ["m", "n"])

        for other in [
            made(x="4..9"), made(x="2..9", ties="mx my"), made(y="0..1"), made(ties="mx my"), made(ties="mx nx"), made(outlets="x"),
            made(outlets="m"), made(outlets="n"), made(outlets="y"), made(y="1"),
        ]:
            self.check(made(), other, False)

    def test_no_border_places(self):
        self.check(Sheet(Chart({})), Sheet(line_of("0", outlets="a")), True)
        self.check(Sheet(line_of("0..2", "2")), Sheet(line_of("2", "0..3")), True)
        self.check(Sheet(line_of("0")), Sheet(line_of("1")), False)
        self.check(Sheet(line_of("0")), Sheet(Chart({})), False)

    def test_against_the_sure_counts_with_companies(self):
        for one, other, chance in drawn_pairs(120, 123, most=5):
            equal = equal_everywhere(one, other)
            borders = form(one).borders()
            companies = [drawn_sheet(chance, ["x" + name for name in many_names(count)], borders, 3) for count in range(5)]
            for company in companies if equal else []:
                left, right = one.glue(company).chart, other.glue(company).chart
                for low, high in level_pairs():
                    self.assertEqual(reference.sure_count(left, low, high), reference.sure_count(right, low, high))

    def test_companies_with_some_of_the_border_places_and_more(self):
        for one, other, chance in drawn_pairs(120, 124, counts=(1, 2, 3), most=5):
            if equal_everywhere(one, other):
                kept = {name: bound for name, bound in form(one).borders().items() if chance.random() < 0.6}
                borders = {**kept, **drawn_places(chance, ["y", "z"], 3)}
                company = drawn_sheet(chance, ["xa", "xb", "xc"], borders, 3)
                left, right = one.glue(company).chart, other.glue(company).chart
                for low, high in level_pairs():
                    self.assertEqual(sure_count(left, low, high), sure_count(right, low, high))

    def test_errors(self):
        sheet = Sheet(sample(), ["a", "d"])
        for call in [equal_everywhere, parting]:
            refused(self, NotSheet, lambda value: call(value, sheet), [*no_sheets(), form(sheet)])
            refused(self, NotSheet, lambda value: call(value, None), no_sheets())
            refused(self, NotSheet, lambda value: call(sheet, value), [*no_sheets(), form(sheet)])

    def test_the_least_name_that_is_not_the_same(self):
        texts = {"b": "1", "c": "2", "d": "3", "x": "0"}
        one = Sheet(chart_of(texts), list("bcd"))
        for changed, borders, name in [
            ({}, "bc", "d"), ({}, "cd", "b"), ({}, "", "b"), ({"b": "1..2"}, "bcd", "b"), ({"c": "1..2", "d": "4"}, "bcd", "c"),
            ({"d": "4"}, "bd", "c"), ({"b": "4"}, "bc", "b"), ({"d": "4"}, "bcd", "d"), ({}, "bcdx", "x"),
            ({"a": "1"}, "abcd", "a"), ({"a": "1", "b": "7"}, "abcd", "a"), ({"z": "1", "d": "7"}, "bcdz", "d"),
        ]:
            other = Sheet(chart_of({**texts, **changed}), list(borders))
            for call in [equal_everywhere, parting]:
                self.assertEqual(raised(self, Mismatch, call, one, other).name, name)
                self.assertEqual(raised(self, Mismatch, call, other, one).name, name)


class TestParting(unittest.TestCase):

    def check_parting(self, one, other):
        before = face(one), face(other)
        found = parting(one, other)
        self.assertIs(found is None, form(one) == form(other))
        if found is not None:
            self.assertIs(type(found), tuple)
            company, low, high = found
            self.assertIsInstance(company, Sheet)
            self.assertEqual(company.borders(), one.borders())
            self.assertTrue(all(company.chart[name] == one.chart[name] for name in one.borders()))
            taken = one.chart.names() + other.chart.names()
            self.assertEqual([name for name in company.inner() if name in taken], [])
            self.assertLessEqual(len(company.chart), 12)
            self.assertLessEqual(low, high)
            left, right = one.glue(company).chart, other.glue(company).chart
            self.assertNotEqual(reference.sure_count(left, low, high), reference.sure_count(right, low, high))
        self.assertEqual((face(one), face(other)), before)
        return found

    def test_many_pairs(self):
        parted = [self.check_parting(one, other) is not None for one, other, chance in drawn_pairs(400, 125)]
        self.assertGreater(parted.count(True), 100)
        self.assertGreater(parted.count(False), 100)

    def test_sheets_of_twenty_places(self):
        for count in [0, 1, 3, 8]:
            for one, other, chance in drawn_pairs(50, 126 + count, counts=[count], most=20 - count, top=8):
                self.check_parting(one, other)
        chance = random.Random(127)
        for count in [0, 1, 3, 8]:
            borders = drawn_places(chance, "pqrstuvw"[:count], 9)
            one = drawn_sheet(chance, many_names(20 - count), borders, 9)
            for turn in range(10):
                self.check_parting(one, varied(one, chance, 9))

    def test_classes_alone_are_unlike(self):
        names = list("pqrstuvw")
        borders = {name: Bounds(0, 5) for name in names}

        def groups(*texts, outlets="", mark=None):
            ties = [(text[0], name) for text in texts for name in text[1:]]
            places = {**borders, **({"a": bounds(mark)} if mark else {})}
            return Sheet(Chart(places, ties + ([("p", "a")] if mark else []), outlets=list(outlets)), names)

        sheets = [
            groups(), groups("pq"), groups("pq", "rs"), groups("pr", "qs"), groups("pqrs"), groups("pqrstuvw"),
            groups("pqrstuv"), groups(outlets="p"), groups("pq", outlets="p"), groups("pq", outlets="q"),
            groups("pq", outlets="w"), groups(outlets="pqrstuvw"), groups("qw", outlets="pqrstuv"), groups(mark="0..4"),
            groups("pq", mark="0..4"), groups("pq", mark="0..3"), groups(mark="4"), groups(mark="5"), groups("pq", mark="4..5"),
        ]
        alike = [
            (k, n) for k, one in enumerate(sheets) for n, other in enumerate(sheets)
            if self.check_parting(one, other) is None and k < n]
        self.assertEqual(alike, [(0, 17), (1, 18), (8, 9), (11, 12), (13, 16)])

    def test_marks_alone_are_unlike(self):
        texts = {"m": "3..9", "a": "0", "b": "1", "o": "3"}
        one, other = Sheet(chart_of(texts, "ma bo", "o"), ["m"]), Sheet(chart_of(texts, "mb ao", "o"), ["m"])
        self.assertEqual(form(one).closed(), form(other).closed())
        for left, right in [(one, other), (other, one)]:
            self.assertEqual(self.check_parting(left, right)[1:], (0, 3))

    def test_closed_hollows_alone_are_unlike(self):
        border = {"m": "0..5"}
        for texts, others in [
            ({"a": "1"}, {}), ({"a": "1"}, {"a": "2"}), ({"a": "1"}, {"a": "1", "b": "1"}), ({"a": "1", "b": "2"}, {"a": "1"}),
            ({"a": "1", "b": "3"}, {"a": "2", "b": "2"}),
        ]:
            one, other = Sheet(chart_of({**border, **texts}), ["m"]), Sheet(chart_of({**border, **others}), ["m"])
            self.assertIsNot(self.check_parting(one, other), None)
            self.assertIsNot(self.check_parting(other, one), None)
        self.check_parting(Sheet(line_of("0", "5", "1")), Sheet(line_of("0", "6", "1")))

    def test_inner_names_that_are_taken(self):
        names = list("abcdefghijklmnopqrst")
        one = Sheet(Chart({name: bounds("0..5") for name in names}), ["a", "b"])
        other = Sheet(Chart({name: bounds("0..5") for name in names}, [("a", "b")]), ["a", "b"])
        self.assertIsNot(self.check_parting(one, other), None)

    def test_by_name_and_again(self):
        one = Sheet(chart_of({"m": "1..4", "x": "0"}, "mx"), ["m"])
        other = Sheet(chart_of({"m": "1..4"}), ["m"])
        first, second = parting(other=other, one=one), parting(one, other)
        self.assertEqual((face(first[0]), first[1:]), (face(second[0]), second[1:]))
        self.assertIs(parting(one, one), None)


if __name__ == "__main__":
    unittest.main()
