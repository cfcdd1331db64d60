"""Forms of sheets [104], [105]."""

import unittest

from surehollows.charts import Chart
from surehollows.errors import InvalidHeight, InvalidLevels, NotSheet
from surehollows.forms import Form, form
from surehollows.sheets import Sheet
from surehollows.sure import sure_count
from tests import reference
from tests.helper import (
    MOST, chart_of, check_fresh, face, level_pairs, levels_around, long_line, no_heights, no_sheets, raised, refused,
    sample, some_sheets
)


def deep():
    """A sheet with one inner place below its border place."""
    return Sheet(chart_of({"m": "1..4", "x": "0"}, "mx"), ["m"])


def wide():
    """A sheet with three border places and classes of all kinds."""
    chart = chart_of(
        {"m": "1..4", "n": "2..9", "o": "0..7", "x": "3..5", "y": "6", "z": "8..9"}, "mx nx ny oz yz", "z")
    return Sheet(chart, ["m", "n", "o"])


def tells(one):
    """All that a form tells about small levels."""
    counts = [one.sure_count(low, high) for low, high in level_pairs()]
    texts = {name: str(limits) for name, limits in one.borders().items()}
    return (texts, [one.classes(level) for level in levels_around()], one.closed(), counts)


class TestClasses(unittest.TestCase):

    def test_levels_among_the_bounds_and_beside_them(self):
        found = form(wide())
        for level, classes in [
            (-1, []), (0, [(["o"], None)]), (1, [(["m"], None), (["o"], None)]),
            (2, [(["m"], None), (["n"], None), (["o"], None)]), (3, [(["m", "n"], None), (["o"], None)]),
            (4, [(["m", "n"], 4), (["o"], None)]), (5, [(["m", "n"], 4), (["o"], None)]),
            (6, [(["m", "n"], 4), (["o"], None)]), (7, [(["m", "n"], 4), (["o"], 7)]),
            (8, [(["m", "n", "o"], "outlet")]), (MOST, [(["m", "n", "o"], "outlet")]), (-MOST, []),
        ]:
            self.assertEqual(found.classes(level), classes, level)

    def test_parts_with_outlets_are_one_class(self):
        chart = chart_of({"m": "1", "n": "2", "o": "0..3", "p": "0", "q": "5", "x": "1..2"}, "ox pq", "mnx")
        found = form(Sheet(chart, list("mnopq")))
        self.assertEqual(found.classes(0), [(["o"], None), (["p"], 0)])
        self.assertEqual(found.classes(1), [(["m", "o"], "outlet"), (["p"], 0)])
        self.assertEqual(found.classes(2), [(["m", "n", "o"], "outlet"), (["p"], 0)])
        self.assertEqual(found.classes(5), [(["m", "n", "o"], "outlet"), (["p", "q"], 0)])

    def test_marks(self):
        chart = chart_of({"m": "0..6", "x": "2", "y": "1..4", "z": "3..9"}, "mz xz ym")
        found = form(Sheet(chart, ["m"]))
        marks = [found.classes(level)[0][1] for level in range(8)]
        self.assertEqual(marks, [None, None, None, 2, 2, 2, 2, 2])
        found = form(Sheet(chart_of({"m": "0..6", "y": "1..4"}, "ym"), ["m"]))
        self.assertEqual([found.classes(level)[0][1] for level in range(8)], [None, None, None, None, 4, 4, 4, 4])
        found = form(Sheet(chart_of({"m": "0..6"}), ["m"]))
        self.assertEqual([found.classes(level)[0][1] for level in range(8)], [None] * 6 + [6, 6])

    def test_order_by_first_names(self):
        chart = chart_of({"a": "1", "b": "1", "c": "1", "d": "1", "e": "1"}, "ae cd")
        self.assertEqual(
            form(Sheet(chart, list("edcb"))).classes(1), [(["b"], 1), (["c", "d"], 1), (["e"], 1)])

    def test_many_sheets_by_the_definition(self):
        for sheet in some_sheets(250, 104):
            found = form(sheet)
            for level in levels_around():
                self.assertEqual(found.classes(level), reference.border_classes(sheet, level))

    def test_no_height(self):
        for sheet in [wide(), Sheet(Chart({}))]:
            refused(self, InvalidHeight, form(sheet).classes, no_heights())


class TestClosed(unittest.TestCase):

    def test_border_places_end_hollows(self):
        self.assertEqual(form(deep()).closed(), [(0, 1)])
        self.assertEqual(form(Sheet(deep().chart)).closed(), [(0, None)])
        self.assertEqual(form(Sheet(deep().chart, ["x"])).closed(), [])
        self.assertEqual(form(wide()).closed(), [])

    def test_equal_pairs_occur_as_often_and_none_comes_last(self):
        chart = chart_of(
            {"m": "5..9", "u": "2", "v": "2", "w": "2", "x": "2", "y": "0", "z": "2", "t": "2..4", "s": "9"},
            "mu mv ws sy", "m")
        self.assertEqual(form(Sheet(chart, ["m"])).closed(), [(0, None), (2, 5), (2, 5), (2, 9), (2, None), (2, None), (4, None)])

    def test_many_sheets_by_the_definition(self):
        for sheet in some_sheets(250, 105):
            self.assertEqual(form(sheet).closed(), reference.closed_hollows(sheet))


class TestSureCount(unittest.TestCase):

    def test_example_sheets(self):
        self.assertEqual([form(deep()).sure_count(low, high) for low, high in [(-1, 0), (0, 0), (0, 9)]], [0, 1, 1])
        self.assertEqual(form(wide()).sure_count(MOST, MOST), 0)
        self.assertEqual([form(wide()).sure_count(low, 7) for low in [3, 4, 6, 7]], [0, 1, 1, 2])

    def test_many_sheets(self):
        for sheet in some_sheets(150, 106):
            found = form(sheet)
            for low, high in level_pairs():
                self.assertEqual(found.sure_count(low, high), sure_count(sheet.chart, low, high))
                self.assertEqual(found.sure_count(low, high), reference.sure_count(sheet.chart, low, high))

    def test_errors(self):
        found = form(wide())
        refused(self, InvalidHeight, lambda value: found.sure_count(value, 0), no_heights())
        refused(self, InvalidHeight, lambda value: found.sure_count(value, None), no_heights())
        refused(self, InvalidHeight, lambda value: found.sure_count(0, value), no_heights())
        for low, high in [(1, 0), (MOST, -MOST), (5, 4)]:
            error = raised(self, InvalidLevels, found.sure_count, low, high)
            self.assertEqual((error.low, error.high), (low, high))


class TestForm(unittest.TestCase):

    def test_borders(self):
        found = form(wide()).borders()
        self.assertEqual(list(found), ["m", "n", "o"])
        self.assertEqual([str(found[name]) for name in found], ["1..4", "2..9", "0..7"])
        self.assertEqual(form(Sheet(sample())).borders(), {})

    def test_no_sheet(self):
        refused(self, NotSheet, form, [*no_sheets(), form(wide())])

    def test_by_name(self):
        found = form(sheet=wide())
        self.assertIsInstance(found, Form)
        self.assertEqual(found.classes(level=4), form(wide()).classes(4))
        self.assertEqual(found.sure_count(high=7, low=4), 1)

    def test_empty_sheets(self):
        found = form(Sheet(Chart({})))
        self.assertEqual((found.borders(), found.classes(0), found.closed(), found.sure_count(0, 0)), ({}, [], [], 0))

    def test_what_was_told_may_be_changed(self):
        sheet = wide()
        found, before = form(sheet), face(sheet)
        check_fresh(self, found.borders)
        check_fresh(self, found.closed)
        for level in range(-1, 10):
            check_fresh(self, lambda: found.classes(level))
        self.assertIs(found == form(wide()), True)
        self.assertEqual((tells(found), face(sheet)), (tells(form(wide())), before))

    def test_sixty_places(self):
        chart, names = long_line()
        found = form(Sheet(chart, names[::8]))
        self.assertEqual(len(found.borders()), 8)
        self.assertEqual(len(found.closed()), len(reference.closed_hollows(Sheet(chart, names[::8]))))
        for low, high in [(0, 0), (30, 60), (58, 940), (500, 1000), (940, 941)]:
            self.assertEqual(found.sure_count(low, high), sure_count(chart, low, high))


class TestEqual(unittest.TestCase):

    def check_equal(self, one, other):
        self.assertIs(form(one) == form(other), True)
        self.assertIs(form(one) != form(other), False)

    def test_unlike_sheets_with_equal_forms(self):
        self.check_equal(wide(), wide())
        bare = Sheet(chart_of({"m": "1..4"}), ["m"])
        for other in [
            chart_of({"m": "1..4", "x": "0..9"}, "mx"), chart_of({"m": "1..4", "x": "4"}, "mx"),
            chart_of({"m": "1..4", "x": "2..7", "y": "5"}, "mx my xy"), chart_of({"m": "1..4", "x": "7"}, "", "x"),
        ]:
            self.check_equal(bare, Sheet(other, ["m"]))
        self.check_equal(Sheet(chart_of({"a": "3", "b": "3"})), Sheet(chart_of({"c": "0..3", "z": "3"})))
        self.check_equal(
            Sheet(chart_of({"m": "1", "n": "2"}, "mn"), ["m", "n"]),
            Sheet(chart_of({"m": "1", "n": "2", "x": "2..5"}, "mx xn"), ["m", "n"]))

    def test_forms_that_differ_in_one_thing(self):
        def made(x="3..5", ties="mx nx", outlets="", m="1..4", borders="mn"):
            return Sheet(chart_of({"m": m, "n": "2..9", "x": x, "y": "6"}, ties, outlets), list(borders))

        one = form(made())
        for sheet in [
            made(x="4..5"), made(x="3"), made(ties="mx"), made(ties="mx nx my"), made(outlets="m"), made(outlets="x"),
            made(outlets="y"), made(m="1..5"), made(m="0..4"), made(borders="m"), made(borders="mny"), made(borders=""),
        ]:
            self.assertIs(one == form(sheet), False)
            self.assertIs(one != form(sheet), True)

    def test_bounds_that_no_class_shows(self):
        for text in ["1..5", "1", "1..2"]:
            one, other = chart_of({"m": "1..4"}, outlets="m"), chart_of({"m": text}, outlets="m")
            self.assertIs(form(Sheet(one, ["m"])) == form(Sheet(other, ["m"])), False)

    def test_values_of_other_kinds(self):
        for value in [*no_sheets(), deep(), {}, tells(form(deep()))]:
            self.assertIs(form(deep()) == value, False)
        self.assertIs(form(Sheet(Chart({}))) == {}, False)

    def test_equal_just_where_all_that_is_told_is_equal(self):
        sheets = some_sheets(60, 107, most=2, top=1)
        sheets = [sheet for sheet in sheets if len(sheet.borders()) < 3]
        same = 0
        for one in sheets:
            for other in sheets:
                equal = form(one) == form(other)
                self.assertIs(equal, tells(form(one)) == tells(form(other)))
                same += equal
        self.assertGreater(same, len(sheets))

    def test_names_of_inner_places_do_not_matter(self):
        for sheet in some_sheets(60, 108):
            chart = sheet.chart
            renamed = {name: name if name in sheet.borders() else "x" + name[::-1] for name in chart.names()}
            places = {renamed[name]: chart[name] for name in chart.names()}
            ties = [(renamed[one], renamed[other]) for one, other in chart.ties()]
            other = Chart(places, ties, outlets=[renamed[name] for name in chart.outlets()])
            self.check_equal(sheet, Sheet(other, sheet.borders()))


class TestDrawing(unittest.TestCase):

    def test_drawn_sheets_have_all_kinds_of_classes(self):
        marks = [
            mark for sheet in some_sheets(40, 104) for level in levels_around() for names, mark in form(sheet).classes(level)]
        for mark in [None, 0, 1, 2, 3, 4, "outlet"]:
            self.assertGreater(marks.count(mark), 5)


if __name__ == "__main__":
    unittest.main()
