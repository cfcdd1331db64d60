"""The examples of the document, as they stand there."""

import unittest

from surehollows.book import Book
from surehollows.bounds import Bounds
from surehollows.calm import calm_land, is_calm, roots, surplus
from surehollows.charts import Chart
from surehollows.charttexts import chart_text, read_chart
from surehollows.console import Console
from surehollows.drain import alone, is_why_not, land_for, may_take, takers, why_not
from surehollows.errors import InvalidBounds, InvalidText
from surehollows.forms import form
from surehollows.hills import hills, sure_hills
from surehollows.lands import Land, basin, basins, closed_count, deeper, depths, hollows
from surehollows.office import Office
from surehollows.parting import equal_everywhere, parting
from surehollows.passes import high_pass, is_rim, low_pass, low_way, pass_level, rim
from surehollows.sheets import Sheet
from surehollows.sure import (
    deep_regions, is_deep, is_separate, least_deeper, least_depths, sure_count, sure_hollows, sure_regions
)
from surehollows.water import (
    dry_land, escape, greatest_water, land_with_water, least_total, least_water, never_wet, surely_wet, water
)
from tests.helper import raised


class TestExamples(unittest.TestCase):

    def test_bounds(self):
        self.assertEqual(
            [str(Bounds(3, 5)), str(Bounds(7, 7)), Bounds(3, 5).width, 4 in Bounds(3, 5), True in Bounds(0, 1)],
            ["3..5", "7", 2, True, False])
        self.assertEqual(
            [str(Bounds(0, 5) & Bounds(3, 9)), str(-Bounds(-2, 5)), Bounds(0, 9).holds(Bounds(0, 3))],
            ["3..5", "-5..2", True])
        self.assertEqual(raised(self, InvalidText, Bounds.from_text, "3..3").value, "3..3")
        error = raised(self, InvalidBounds, Bounds, 5, 4)
        self.assertEqual((error.low, error.high), (5, 4))

    def test_chart(self):
        chart = Chart({"a": Bounds(0, 1), "b": Bounds(5, 9), "c": Bounds(0, 2)}, [("a", "b"), ("b", "c")])
        self.assertEqual(
            [chart.names(), chart.ties(), chart.neighbours("b"), chart.parts(), str(chart["c"]), "d" in chart,
             len(chart)],
            [["a", "b", "c"], [("a", "b"), ("b", "c")], ["a", "c"], [["a", "b", "c"]], "0..2", False, 3])

    def test_chart_text(self):
        self.assertEqual(
            chart_text(Chart({"b": Bounds(2, 5), "a": Bounds(0, 0)}, [("b", "a")], outlets=["a"])),
            "outlet a 0\nplace b 2..5\ntie a b")
        self.assertEqual(raised(self, InvalidText, read_chart, "place a 1\n\nplace b 2").value, 1)

    def test_lands(self):
        chart = Chart({"a": Bounds(0, 4), "b": Bounds(1, 3), "c": Bounds(1, 9)}, [("a", "b"), ("c", "b")])
        land = Land(chart, {"a": 0, "b": 3, "c": 1})
        self.assertEqual(
            [hollows(land), depths(land), deeper(land, 2), basins(land, 1), basin(land, "c", 3),
             closed_count(land, 0, 1)],
            [[("a", 0, None), ("c", 1, 3)], [None, 2], 1, [["a"], ["c"]], ["a", "b", "c"], 1])

    def test_passes(self):
        chart = Chart({"a": Bounds(0, 2), "b": Bounds(3, 8), "c": Bounds(1, 1)}, [("a", "b"), ("b", "c")])
        self.assertEqual(
            [low_pass(chart, "a", "c"), high_pass(chart, "a", "c"), low_way(chart, "a", "c"),
             pass_level(Land.clipped(chart, 5), "c", "a")],
            [3, 8, ["a", "b", "c"], 5])
        self.assertEqual(
            [rim(chart, "a", 3), rim(chart, "a", 0), is_rim(chart, "a", 3, ["c", "a"]), is_rim(chart, "a", 4, ["a"])],
            [["a"], [], True, False])

    def test_sure_hollows(self):
        chart = Chart({"a": Bounds(0, 1), "b": Bounds(5, 9), "c": Bounds(0, 2)}, [("a", "b"), ("b", "c")])
        self.assertEqual(
            [sure_hollows(chart), least_depths(chart), least_deeper(chart, 2), least_deeper(chart, 3),
             sure_regions(chart, 2, 4), sure_count(chart, 1, 4)],
            [[("a", 1, None), ("c", 2, 5)], [None, 3], 2, 1, [("a", ["a"]), ("c", ["c"])], 1])
        regions = [("a", ["a"]), ("c", ["c"])]
        self.assertEqual(
            [deep_regions(chart, 2), is_deep(chart, 2, regions), is_deep(chart, 3, regions),
             is_separate(chart, 2, 4, regions), is_separate(chart, 2, 5, regions)],
            [[("a", ["a"]), ("c", ["c"])], True, False, True, False])

    def test_calm_land(self):
        chart = Chart({"a": Bounds(0, 1), "b": Bounds(5, 9), "c": Bounds(0, 2)}, [("a", "b"), ("b", "c")])
        land = Land(chart, {"a": 0, "b": 9, "c": 0})
        self.assertEqual(
            [roots(chart), calm_land(chart).heights(), is_calm(chart, calm_land(chart)), is_calm(chart, land),
             surplus(chart, land)],
            [["a", "c"], {"a": 1, "b": 5, "c": 2}, True, False, (0, 0)])

    def test_water(self):
        chart = Chart(
            {"a": Bounds(0, 2), "b": Bounds(3, 8), "o": Bounds(1, 1)}, [("a", "b"), ("b", "o")], outlets=["o"])
        self.assertEqual(
            [dry_land(chart).heights(), least_water(chart, "a"), greatest_water(chart, "a"), escape(chart, "a")],
            [{"a": 2, "b": 3, "o": 1}, 1, 8, ["a", "b", "o"]])
        self.assertEqual(
            [water(land_with_water(chart, "a", 4), "a"), least_total(chart), surely_wet(chart), never_wet(chart)],
            [4, 1, ["a"], ["b", "o"]])

    def test_drain(self):
        chart = Chart(
            {"a": Bounds(0, 4), "o": Bounds(5, 5), "p": Bounds(1, 6)}, [("a", "o"), ("o", "p"), ("a", "p")],
            outlets=["o", "p"])
        self.assertEqual(
            [takers(Land.lowest(chart), "a"), may_take(chart, "a"), alone(chart, "a"),
             "o" in takers(land_for(chart, "a", "o"), "a")],
            [["p"], ["o", "p"], None, True])
        far = Chart(
            {"a": Bounds(0, 4), "o": Bounds(5, 5), "p": Bounds(1, 4)}, [("a", "o"), ("a", "p")], outlets=["o", "p"])
        self.assertEqual(
            [why_not(far, "a", "o")[0], is_why_not(far, "a", "o", ("p", ["a", "p"], 4, ["a", "p"])),
             is_why_not(far, "a", "o", ("p", ["a", "p"], 5, ["a", "p"])), alone(far, "a")],
            ["p", True, False, "p"])

    def test_book_and_hills(self):
        book = Book(
            Chart({"a": Bounds(0, 9), "b": Bounds(2, 9), "c": Bounds(1, 9)}, [("a", "b"), ("b", "c")]))
        self.assertEqual(
            [book.hollows(), book.read("c", Bounds(0, 1)), book.read("b", Bounds(4, 20)), book.hollows(),
             book.history(), str(book.now["b"])],
            [[("a", 9, None)], None, None, [("c", 1, None)], [("c", "0..1"), ("b", "4..20")], "4..9"])
        self.assertEqual(
            [book.tried(lambda it: it.read("a", Bounds.exact(0)), keep=False), book.hollows(),
             book.tried(lambda it: it.undo()), book.hollows()],
            [None, [("c", 1, None)], None, [("c", 1, None)]])
        self.assertEqual(
            [hills(Land.highest(book.now)), sure_hills(book.now, outlets=["c"])], [[("a", 9, None)], [("b", 2, 1)]])

    def test_form(self):
        f = form(Sheet(Chart({"m": Bounds(1, 4), "x": Bounds(0, 0)}, [("m", "x")]), ["m"]))
        self.assertEqual(
            [f.closed(), f.classes(0), f.classes(1), f.sure_count(0, 0), f.sure_count(0, 1)],
            [[(0, 1)], [], [(["m"], 0)], 1, 1])

    def test_parting_and_office(self):
        bare = Sheet(Chart({"m": Bounds(1, 4)}), ["m"])
        grown = Sheet(Chart({"m": Bounds(1, 4), "x": Bounds(0, 9)}, [("m", "x")]), ["m"])
        deep = Sheet(Chart({"m": Bounds(1, 4), "x": Bounds(0, 0)}, [("m", "x")]), ["m"])
        self.assertEqual(
            [equal_everywhere(bare, grown), parting(bare, grown), parting(bare, deep) is None], [True, None, False])
        one = Sheet(Chart({"m": Bounds(1, 4), "x": Bounds(0, 0)}, [("m", "x")]), ["m"])
        two = Sheet(Chart({"m": Bounds(1, 4), "y": Bounds(2, 3)}, [("m", "y")]), ["m"])
        office = Office({"s": one, "t": two}, ("s", "t"))
        self.assertEqual(
            [office.hollows(), office.read("m", Bounds(4, 9)), office.hollows(), office.least_depths(), office.undo(),
             office.hollows()],
            [[(0, None)], None, [(0, None), (3, 4)], [None, 1], None, [(0, None)]])

    def test_console(self):
        console = Console()
        self.assertEqual(
            console.said([
                "chart place a 0..4; outlet b 1; tie a b", "read a 2..9", "water a", "dry", "hollows", "read a 5", "undo",
                "undo", "show"]),
            ["2", "2..4", "0 0", "a 2; b 1", "-", "! Contradiction", "undone", "! NothingToUndo",
             "place a 0..4; outlet b 1; tie a b"])
        self.assertEqual(
            console.said([
                "calm ", "calm", "chart tie a b", "chart", "calm", "count 3 2", "alone a", "read a 1..1"]),
            ["! InvalidLine", "a 1; b 1", "! InvalidText", "0", "-", "! InvalidLevels", "! UnknownPlace",
             "! InvalidLine"])


if __name__ == "__main__":
    unittest.main()
