"""The examples of the document, as they stand there."""

import unittest

from surehollows.bounds import Bounds
from surehollows.charts import Chart
from surehollows.errors import InvalidBounds, InvalidText
from tests.helper import raised


class TestExamples(unittest.TestCase):

    def test_bounds(self):
        self.assertEqual(
            [str(Bounds(3, 5)), str(Bounds(7, 7)), Bounds(3, 5).width, 4 in Bounds(3, 5), True in Bounds(0, 1)],
            ["3..5", "7", 2, True, False])
        self.assertEqual(
            [str(Bounds(0, 5) & Bounds(3, 9)), str(-Bounds(-2, 5)), Bounds(0, 9).holds(Bounds(0, 3))],
            ["3..5", "-5..2", True])
        self.assertEqual(raised(self, InvalidText, Bounds.from_text, "3..3").value, "3..3")
        error = raised(self, InvalidBounds, Bounds, 5, 4)
        self.assertEqual((error.low, error.high), (5, 4))

    def test_chart(self):
        chart = Chart({"a": Bounds(0, 1), "b": Bounds(5, 9), "c": Bounds(0, 2)}, [("a", "b"), ("b", "c")])
        self.assertEqual(
            [chart.names(), chart.ties(), chart.neighbours("b"), chart.parts(), str(chart["c"]), "d" in chart,
             len(chart)],
            [["a", "b", "c"], [("a", "b"), ("b", "c")], ["a", "c"], [["a", "b", "c"]], "0..2", False, 3])


if __name__ == "__main__":
    unittest.main()
