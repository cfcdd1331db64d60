"""Charts as text [24], [25], with the text of bounds [14]."""

import itertools
import unittest

from surehollows.bounds import Bounds
from surehollows.charts import Chart
from surehollows.charttexts import chart_text, read_chart
from surehollows.errors import InvalidText, NotChart
from tests.helper import (
    MOST, bounds, chart_of, long_line, look, many_names, no_charts, raised, refused, sample, some_charts
)


class TestWriting(unittest.TestCase):

    def test_no_place(self):
        self.assertEqual(chart_text(Chart({})), "")
        self.assertEqual(chart_text(chart=Chart({})), "")

    def test_places_outlets_and_ties(self):
        self.assertEqual(chart_text(sample()), "\n".join([
            "outlet a 0..1", "place b -9..-2", "place c 5", "place d -4..7", "outlet e 3..4", "tie a b", "tie b d",
            "tie c e"]))

    def test_example_of_the_point(self):
        chart = Chart({"b": Bounds(2, 5), "a": Bounds(0, 0)}, [("b", "a")], outlets=["a"])
        self.assertEqual(chart_text(chart).split("\n"), ["outlet a 0", "place b 2..5", "tie a b"])

    def test_bounds(self):
        for text in ["0", "-1", "7", "-3..-2", "-3..5", "0..1", "-1..0", str(MOST), str(-MOST), f"{-MOST}..{MOST}"]:
            self.assertEqual(chart_text(chart_of({"a": text})), "place a " + text)
            self.assertEqual(chart_text(chart_of({"a": text}, outlets="a")), "outlet a " + text)

    def test_order_of_places_and_ties(self):
        names = ["b", "ba", "a", "z", "ab", "tie", "place"]
        ties = [("z", "a"), ("place", "b"), ("ba", "b"), ("tie", "ab"), ("ab", "a")]
        for turn in range(7):
            turned = names[turn:] + names[:turn]
            chart = Chart({name: bounds("1") for name in turned}, [tie[::-1] for tie in ties[turn:] + ties[:turn]])
            self.assertEqual(chart_text(chart), "\n".join([
                "place a 1", "place ab 1", "place b 1", "place ba 1", "place place 1", "place tie 1", "place z 1",
                "tie a ab", "tie a z", "tie ab tie", "tie b ba", "tie b place"]))

    def test_sixty_places(self):
        chart, names = long_line()
        lines = chart_text(chart).split("\n")
        self.assertEqual([line.split(" ")[1] for line in lines[:60]], sorted(names))
        self.assertEqual([tuple(line.split(" ")[1:]) for line in lines[60:]], chart.ties())

    def test_no_chart(self):
        refused(self, NotChart, chart_text, no_charts())

    def test_the_chart_stays(self):
        chart = sample()
        before = look(chart)
        self.assertEqual(chart_text(chart), chart_text(chart))
        self.assertEqual(look(chart), before)


class TestReading(unittest.TestCase):

    def test_no_place(self):
        self.assertEqual(look(read_chart("")), look(Chart({})))

    def test_one_place(self):
        self.assertTrue(read_chart("place a 3..5") == chart_of({"a": "3..5"}))
        self.assertTrue(read_chart("outlet a -1") == chart_of({"a": "-1"}, outlets="a"))
        self.assertTrue(read_chart(text="place place 0").names() == ["place"])

    def test_texts_of_charts(self):
        for chart in [sample(), long_line()[0], chart_of({"a": f"{-MOST}..{MOST}"}, outlets="a")] + some_charts(200, 1):
            self.assertTrue(read_chart(chart_text(chart)) == chart)
            self.assertEqual(chart_text(read_chart(chart_text(chart))), chart_text(chart))

    def test_lines_in_any_order(self):
        lines = ["place a 1", "outlet b -2..3", "place c 0", "tie a b", "tie c a"]
        chart = chart_of({"a": "1", "b": "-2..3", "c": "0"}, "ab ac", "b")
        read = 0
        for order in itertools.permutations(lines):
            places = [line.split(" ")[1] for line in order]
            behind = all(
                {"a", "b", "c"} & set(line.split(" ")[1:]) <= set(places[:k]) for k, line in enumerate(order)
                if line[0] == "t")
            if behind:
                self.assertTrue(read_chart("\n".join(order)) == chart)
                read += 1
            else:
                first = min(
                    k for k, line in enumerate(order)
                    if line[0] == "t" and not set(line.split(" ")[1:]) <= {
                        other.split(" ")[1] for other in order[:k] if other[0] != "t"})
                self.assertEqual(raised(self, InvalidText, read_chart, "\n".join(order)).value, first)
        self.assertGreater(read, 10)

    def test_names_of_a_tie_in_either_order(self):
        for tie in ["tie a b", "tie b a"]:
            chart = read_chart("place b 0\nplace a 0\n" + tie)
            self.assertEqual(chart.ties(), [("a", "b")])

    def test_a_tie_between_lines_of_places(self):
        chart = read_chart("place a 0\nplace b 0\ntie b a\nplace c 0\ntie c b\noutlet d 0")
        self.assertTrue(chart == chart_of({"a": "0", "b": "0", "c": "0", "d": "0"}, "ab bc", "d"))

    def test_names_that_are_words(self):
        chart = read_chart("place tie 0\noutlet outlet 0\nplace place 1\ntie tie outlet")
        self.assertEqual((chart.names(), chart.ties(), chart.outlets()), (
            ["outlet", "place", "tie"], [("outlet", "tie")], ["outlet"]))

    def test_sixty_places(self):
        lines = [f"place {name} 0" for name in many_names(61)]
        self.assertEqual(read_chart("\n".join(lines[:60])).names(), many_names(60))
        self.assertEqual(raised(self, InvalidText, read_chart, "\n".join(lines)).value, 60)
        behind = lines[:60] + ["tie aa ab", lines[60], "nothing"]
        self.assertEqual(raised(self, InvalidText, read_chart, "\n".join(behind)).value, 61)
        outlets = ["outlet" + line[5:] for line in lines]
        self.assertEqual(read_chart("\n".join(outlets[:60])).outlets(), many_names(60))
        self.assertEqual(raised(self, InvalidText, read_chart, "\n".join(outlets)).value, 60)

    def test_ties_of_sixty_places(self):
        names = many_names(60)
        lines = [f"place {name} 0" for name in names]
        lines += [f"tie {other} {one}" for one, other in itertools.combinations(names, 2)][:350]
        chart = read_chart("\n".join(lines))
        self.assertEqual(chart.ties(), list(itertools.combinations(names, 2))[:350])


def wrong_lines():
    """Lines that are invalid behind lines of the places a, b and e and of a tie of a and b."""
    return [
        "", " ", "  ", "place", "outlet", "tie", "place ", "place c", "place c ", "place  c", "place c 0 ", " place c 0",
        "place  c 0", "place c  0", "place c 0 0", "place c d 0", "Place c 0", "places c 0", "c 0", "c place 0", "place 0 c",
        "place a 0", "place b 5", "outlet a 0", "outlet b 5", "place A 0", "place  0", "place abcdefghi 0", "place c1 0",
        "place c_ 0", "place c 3..3", "place c -0", "place c 01", "place c +1", "place c 5..3", "place c 3.5",
        "place c 3...5", "place c ..5", "place c 3..", "place c ..", "place c --1", "place c 1..2..3", "place c 1..+2",
        "place c -0..2", "place c 3 5", "place c 3 .. 5", "place c 1e3", "place c x", f"place c {MOST + 1}",
        f"place c {-MOST - 1}..0", "place c " + "9" * 5000, "place c 0\t", "\tplace c 0", "place\tc\t0", "place c 0\r",
        "tie a", "tie a b", "tie b a", "tie a a", "tie b b", "tie a c", "tie c a", "tie c d", "tie a b c", "tie  a b",
        "tie a  b", "tie a b ", " tie a b", "tie c c", "tie a 0", "tie a ", "ties a b", "Tie a b", "tie ab", "tie a,b",
        "name c 0", "tie place a", "outlet tie a b", "#", "place c 0;", "place c 0; place d 0",
        "ties a e", "Tie a e", "a e", "x a e", "place a e", " tie a e", "tie a e ", "tie  a e", "tie a  e", "tie a e b",
        "tie e e", "", "e", "tie e", "tie f e", "outlet e 0", "place e 0..1",
    ]


class TestWrongTexts(unittest.TestCase):

    def test_wrong_lines(self):
        for tie in ["tie a b", "tie b a"]:
            start = ["place a 0", "outlet b 1..4", tie, "place e 3..4"]
            for line in wrong_lines():
                for behind in [[], ["place c 0"], ["", "tie a a"]]:
                    text = "\n".join(start + [line] + behind)
                    self.assertEqual(raised(self, InvalidText, read_chart, text).value, 4, line)

    def test_wrong_first_lines(self):
        for line in ["tie a b", " ", "place a", "x", "place a 0 ", "place a 3..3", "\n", "tie a a", "\nplace a 0"]:
            self.assertEqual(raised(self, InvalidText, read_chart, line).value, 0, line)

    def test_line_feed_at_the_end(self):
        self.assertEqual(raised(self, InvalidText, read_chart, "place a 0\n").value, 1)
        self.assertEqual(raised(self, InvalidText, read_chart, "place a 0\nplace b 0\ntie a b\n").value, 3)
        self.assertEqual(raised(self, InvalidText, read_chart, "\n").value, 0)

    def test_empty_lines(self):
        self.assertEqual(raised(self, InvalidText, read_chart, "\nplace a 0").value, 0)
        self.assertEqual(raised(self, InvalidText, read_chart, "place a 0\n\nplace b 0").value, 1)

    def test_a_tie_ahead_of_a_place(self):
        for text, index in [
            ("tie a b\nplace a 0\nplace b 0", 0), ("place a 0\ntie a b\nplace b 0", 1),
            ("place b 0\ntie a b\nplace a 0", 1), ("place a 0\nplace b 0\ntie a c\nplace c 0", 2),
        ]:
            self.assertEqual(raised(self, InvalidText, read_chart, text).value, index)

    def test_the_index_is_a_number_that_is_no_bool(self):
        self.assertIs(type(raised(self, InvalidText, read_chart, "x").value), int)
        self.assertIs(type(raised(self, InvalidText, read_chart, None).value), int)

    def test_no_string(self):
        for value in [*no_charts(), sample(), 7, ["place a 0"], ("place a 0",), {"place a 0": 1}, []]:
            if not isinstance(value, str):
                self.assertEqual(raised(self, InvalidText, read_chart, value).value, 0)


if __name__ == "__main__":
    unittest.main()
