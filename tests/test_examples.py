"""The examples of the document, as they stand there."""

import unittest

from surehollows.bounds import Bounds
from surehollows.charts import Chart
from surehollows.charttexts import chart_text, read_chart
from surehollows.errors import InvalidBounds, InvalidText
from surehollows.lands import Land, basin, basins, closed_count, deeper, depths, hollows
from surehollows.passes import high_pass, is_rim, low_pass, low_way, pass_level, rim
from tests.helper import raised


class TestExamples(unittest.TestCase):

    def test_bounds(self):
        self.assertEqual(
            [str(Bounds(3, 5)), str(Bounds(7, 7)), Bounds(3, 5).width, 4 in Bounds(3, 5), True in Bounds(0, 1)],
            ["3..5", "7", 2, True, False])
        self.assertEqual(
            [str(Bounds(0, 5) & Bounds(3, 9)), str(-Bounds(-2, 5)), Bounds(0, 9).holds(Bounds(0, 3))],
            ["3..5", "-5..2", True])
        self.assertEqual(raised(self, InvalidText, Bounds.from_text, "3..3").value, "3..3")
        error = raised(self, InvalidBounds, Bounds, 5, 4)
        self.assertEqual((error.low, error.high), (5, 4))

    def test_chart(self):
        chart = Chart({"a": Bounds(0, 1), "b": Bounds(5, 9), "c": Bounds(0, 2)}, [("a", "b"), ("b", "c")])
        self.assertEqual(
            [chart.names(), chart.ties(), chart.neighbours("b"), chart.parts(), str(chart["c"]), "d" in chart,
             len(chart)],
            [["a", "b", "c"], [("a", "b"), ("b", "c")], ["a", "c"], [["a", "b", "c"]], "0..2", False, 3])

    def test_chart_text(self):
        self.assertEqual(
            chart_text(Chart({"b": Bounds(2, 5), "a": Bounds(0, 0)}, [("b", "a")], outlets=["a"])),
            "outlet a 0\nplace b 2..5\ntie a b")
        self.assertEqual(raised(self, InvalidText, read_chart, "place a 1\n\nplace b 2").value, 1)

    def test_lands(self):
        chart = Chart({"a": Bounds(0, 4), "b": Bounds(1, 3), "c": Bounds(1, 9)}, [("a", "b"), ("c", "b")])
        land = Land(chart, {"a": 0, "b": 3, "c": 1})
        self.assertEqual(
            [hollows(land), depths(land), deeper(land, 2), basins(land, 1), basin(land, "c", 3),
             closed_count(land, 0, 1)],
            [[("a", 0, None), ("c", 1, 3)], [None, 2], 1, [["a"], ["c"]], ["a", "b", "c"], 1])

    def test_passes(self):
        chart = Chart({"a": Bounds(0, 2), "b": Bounds(3, 8), "c": Bounds(1, 1)}, [("a", "b"), ("b", "c")])
        self.assertEqual(
            [low_pass(chart, "a", "c"), high_pass(chart, "a", "c"), low_way(chart, "a", "c"),
             pass_level(Land.clipped(chart, 5), "c", "a")],
            [3, 8, ["a", "b", "c"], 5])
        self.assertEqual(
            [rim(chart, "a", 3), rim(chart, "a", 0), is_rim(chart, "a", 3, ["c", "a"]), is_rim(chart, "a", 4, ["a"])],
            [["a"], [], True, False])


if __name__ == "__main__":
    unittest.main()
