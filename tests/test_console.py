"""A console [121] to [123]."""

import random
import unittest

from surehollows.book import Book
from surehollows.bounds import Bounds
from surehollows.calm import calm_land
from surehollows.charts import Chart
from surehollows.charttexts import chart_text, read_chart
from surehollows.console import Console
from surehollows.drain import alone, may_take
from surehollows.hills import sure_hills
from surehollows.sure import least_depths, sure_count, sure_hollows
from surehollows.water import dry_land, greatest_water, least_water
from tests.helper import MOST, SomeObject, bounds, chart_of, line_of, long_line, many_names, sample, some_charts

WORDS = [
    "chart", "read", "undo", "show", "hollows", "hills", "depths", "count", "calm", "dry", "water", "takers", "alone",
    "none", "place", "tie", "outlet", "undone",
]


def line_for(chart):
    """The line that begins a book of this chart."""
    return "chart " + chart_text(chart).replace("\n", "; ") if len(chart) else "chart"


def console_of(chart):
    console = Console()
    assert console.say(line_for(chart)) == str(len(chart))
    return console


def example():
    """A chart of two parts, one of them with outlets."""
    return chart_of(
        {"a": "0..4", "b": "3..8", "c": "1", "d": "0..2", "e": "5..9", "f": "1..3", "g": "2..7"}, "ab bc de ef bg", "cg")


def asked():
    """Lines that change nothing for charts with the places a to h, of all kinds."""
    lines = ["show", "hollows", "hills", "depths", "calm", "dry"]
    lines += [f"count {low} {high}" for low in (-1, 0, 2, 3) for high in (0, 2, 4)]
    return lines + [f"{word} {name}" for word in ("water", "takers", "alone") for name in "abcdefgh"]


def written(found):
    return "; ".join(f"{name} {one} {'none' if other is None else other}" for name, one, other in found) or "-"


def answers(chart):
    """What the lines of asked must answer for the chart, by the functions that they stand for."""
    told = [chart_text(chart).replace("\n", "; ") or "-", written(sure_hollows(chart)), written(sure_hills(chart))]
    told.append(" ".join("none" if depth is None else str(depth) for depth in least_depths(chart)) or "-")
    for land in [calm_land(chart), dry_land(chart)]:
        told.append("; ".join(f"{name} {land(name)}" for name in chart.names()) or "-")
    for low in (-1, 0, 2, 3):
        for high in (0, 2, 4):
            told.append(str(sure_count(chart, low, high)) if low <= high else "! InvalidLevels")
    for name in "abcdefgh":
        least = least_water(chart, name) if name in chart else None
        water = "none" if least is None else f"{least} {greatest_water(chart, name)}"
        told.append(water if name in chart else "! UnknownPlace")
    told += [" ".join(may_take(chart, name)) or "-" if name in chart else "! UnknownPlace" for name in "abcdefgh"]
    return told + [alone(chart, name) or "none" if name in chart else "! UnknownPlace" for name in "abcdefgh"]


class TestLines(unittest.TestCase):

    def check(self, console, pairs):
        for line, answer in pairs:
            self.assertEqual(console.say(line), answer, line)

    def test_a_new_console(self):
        console = Console()
        self.assertEqual([console.say(line) for line in asked()], answers(Chart({})))
        self.check(console, [
            ("show", "-"), ("hollows", "-"), ("hills", "-"), ("depths", "-"), ("calm", "-"), ("dry", "-"),
            ("count 0 0", "0"), ("undo", "! NothingToUndo"), ("water a", "! UnknownPlace")])

    def test_every_kind_of_line(self):
        self.check(console_of(example()), [
            ("show", "place a 0..4; place b 3..8; outlet c 1; place d 0..2; place e 5..9; place f 1..3; outlet g 2..7; "
             "tie a b; tie b c; tie b g; tie d e; tie e f"),
            ("hollows", "d 2 none; f 3 5"), ("hills", "e 5 none; b 3 none"), ("depths", "none 2"),
            ("count 2 2", "1"), ("count 3 4", "2"), ("count 3 5", "1"), ("count 4 3", "! InvalidLevels"),
            ("calm", "a 3; b 3; c 1; d 2; e 5; f 3; g 2"), ("dry", "a 3; b 3; c 1; d 2; e 9; f 3; g 2"),
            ("water a", "0 8"), ("water c", "0 0"), ("water d", "none"), ("water h", "! UnknownPlace"),
            ("takers a", "c g"), ("takers c", "c"), ("takers d", "-"), ("takers h", "! UnknownPlace"),
            ("alone a", "none"), ("alone c", "c"), ("alone d", "none"), ("alone h", "! UnknownPlace"),
            ("read a 2..9", "2..4"), ("read b 3", "3"), ("takers a", "c g"), ("read g 4..9", "4..7"), ("alone a", "none"),
            ("read g 5..9", "5..7"), ("alone a", "c"), ("undo", "undone"),
            ("undo", "undone"), ("undo", "undone"), ("undo", "undone"), ("undo", "! NothingToUndo"), ("water a", "0 8")])

    def test_many_charts(self):
        for chart in some_charts(60, 121, most=7):
            console = console_of(chart)
            self.assertEqual([console.say(line) for line in asked()], answers(chart))

    def test_readings(self):
        chance = random.Random(122)
        for chart in some_charts(40, 122, most=7):
            console, book = console_of(chart), Book(chart)
            for turn in range(5 if len(chart) else 0):
                name = chance.choice(chart.names())
                low = chance.randint(-2, 4)
                limits = Bounds(low, chance.randint(low, 4))
                if max(book.now[name].low, limits.low) > min(book.now[name].high, limits.high):
                    self.assertEqual(console.say(f"read {name} {limits}"), "! Contradiction")
                else:
                    book.read(name, limits)
                    self.assertEqual(console.say(f"read {name} {limits}"), str(book.now[name]))
                self.assertEqual([console.say(line) for line in asked()], answers(book.now))
            while book.history():
                book.undo()
                self.assertEqual(console.say("undo"), "undone")
                self.assertEqual(console.say("show"), chart_text(book.now).replace("\n", "; "))
            self.assertEqual(console.say("undo"), "! NothingToUndo")

    def test_texts_of_charts(self):
        console = Console()
        for chart in [Chart({}), sample(), long_line()[0], Chart({name: bounds("0") for name in many_names(60)})]:
            self.assertEqual(console.say(line_for(chart)), str(len(chart)))
            self.assertEqual(console.say("show"), chart_text(chart).replace("\n", "; ") or "-")
            if len(chart):
                self.assertEqual(console.say("chart " + chart_text(chart)), str(len(chart)))
                self.assertEqual(console.say("show"), chart_text(chart).replace("\n", "; "))

    def test_line_feeds(self):
        self.check(Console(), [
            ("chart place a 1\nplace b 2..3\ntie b a", "2"), ("show", "place a 1; place b 2..3; tie a b"),
            ("chart place a 1; place c 2\ntie a c", "2"), ("show", "place a 1; place c 2; tie a c"),
            ("chart \n", "! InvalidText"), ("chart \nplace a 1", "! InvalidText"), ("chart place a 1\n", "! InvalidText"),
            ("chart place a 1;\nplace b 1", "! InvalidText"), ("chart place a 1\n; place b 1", "! InvalidText"),
            ("chart\n", "! InvalidLine"), ("chart\nplace a 1", "! InvalidLine"), ("show\n", "! InvalidLine"),
            ("undo\nundo", "! InvalidLine"), ("read a\n1", "! InvalidLine"), ("read a 1\n", "! InvalidLine"),
            ("water a\n", "! InvalidLine"), ("\n", "! InvalidLine"), ("show", "place a 1; place c 2; tie a c")])

    def test_a_new_chart_begins_a_new_book(self):
        console = console_of(line_of("0..9"))
        self.check(console, [
            ("read a 3..5", "3..5"), ("chart place b 0..9", "1"), ("undo", "! NothingToUndo"), ("show", "place b 0..9"),
            ("read b 1", "1"), ("chart", "0"), ("show", "-"), ("undo", "! NothingToUndo")])

    def test_an_invalid_text_keeps_the_book(self):
        console = console_of(line_of("0..9"))
        self.check(console, [
            ("read a 3..5", "3..5"), ("chart tie a b", "! InvalidText"), ("chart place a", "! InvalidText"),
            ("chart x", "! InvalidText"), ("chart place a 1;", "! InvalidText"), ("chart place a 1;place b 2", "! InvalidText"),
            ("chart place a 1 ;", "! InvalidText"), ("chart place a 3..3", "! InvalidText"), ("chart ;", "! InvalidText"),
            ("chart place a 1; place a 1", "! InvalidText"), ("chart " + "; ".join(f"place {name} 0" for name in many_names(61)), "! InvalidText"),
            ("show", "place a 3..5"), ("undo", "undone"), ("show", "place a 0..9")])

    def test_places_whose_names_are_words_of_the_lines(self):
        chart = Chart(
            {word: bounds("0..5") for word in WORDS}, [("none", word) for word in WORDS if word != "none"],
            outlets=["none", "outlet"])
        console = console_of(chart)
        self.assertEqual(console.say("show"), chart_text(chart).replace("\n", "; "))
        for word in WORDS:
            self.assertEqual(console.say(f"water {word}"), "0 0" if word in ("none", "outlet") else "0 5")
            self.assertEqual(console.say(f"takers {word}"), "outlet" if word == "outlet" else "none")
            self.assertEqual(console.say(f"alone {word}"), "outlet" if word == "outlet" else "none")
            self.assertEqual(console.say(f"read {word} 1..9"), "1..5")
        self.assertEqual(console.say("calm"), "; ".join(f"{word} 1" for word in sorted(WORDS)))
        none = console_of(Chart({"none": bounds("3..4")}))
        self.check(none, [("hollows", "none 4 none"), ("hills", "none 3 none"), ("dry", "none 4"), ("water none", "none")])

    def test_great_numbers(self):
        console = console_of(line_of(f"{-MOST}..{MOST}", f"{MOST}"))
        self.check(console, [
            (f"count {MOST} {MOST}", "1"), (f"count {-MOST} {MOST}", "0"), (f"count {MOST + 1} {MOST + 1}", "! InvalidLine"),
            (f"count 0 {-MOST - 1}", "! InvalidLine"), (f"read a {-MOST}..{-MOST + 1}", f"{-MOST}..{-MOST + 1}"),
            (f"read a {-MOST - 1}..0", "! InvalidLine"), ("count 0 " + "9" * 5000, "! InvalidLine"), ("depths", "none")])


class TestRefusedLines(unittest.TestCase):

    def invalid_lines(self):
        lines = ["", " ", "  ", "shows", "Show", "SHOW", "hollow", "x", "?", "-", "none", "invalid", "place a 1", "tie a b", ";"]
        lines += [
            "calm a", "dry 1", "undo a", "undo 1", "show show", "hollows a", "hills none", "depths 1", "water", "takers",
            "alone", "water a b", "takers a a", "alone a b", "read", "read a", "read a 1 2", "read a 1 a", "count",
            "count 1", "count 1 2 3", "read 1 a", "read a b", "count a b",
        ]
        lines += [f"{word} {name}" for word in ("water", "takers", "alone") for name in ("A", "1", "abcdefghi", "a1", "a;", "")]
        lines += [f"read {name} 1" for name in ("A", "abcdefghi", "a-b", "3")]
        texts = ["3..3", "-0", "01", "+1", "5..3", "1.5", "1..", "..1", "1...2", "1-2", "x", "--1", "1..2..3", "0..-0", str(MOST + 1)]
        lines += [f"read a {text}" for text in texts]
        lines += [f"count {text} 3" for text in texts] + [f"count 0 {text}" for text in texts]
        lines += ["count 1..2 3", "count 0 0..1", "count 0..1 0..1"]
        valid = ["chart", "chart place a 1", "undo", "show", "read a 1", "count 0 0", "calm", "water a", "hills"]
        lines += [" " + line for line in valid] + [line + " " for line in valid] + ["  " + line + "  " for line in valid]
        lines += [line.replace(" ", "  ") for line in valid if " " in line]
        return lines + ["chart place a 1; ", "chart  place a 1", "chart place a 1;  place b 1", "chart place a  1", "chart place a 1 ; "]

    def test_invalid_lines(self):
        chart = line_of("0..9", "3", outlets="b")
        console = console_of(chart)
        console.say("read a 0..7")
        for line in self.invalid_lines():
            self.assertEqual(console.say(line), "! InvalidLine", line)
            self.assertEqual(console.say("show"), "place a 0..7; outlet b 3; tie a b")
        self.assertEqual([console.say("undo"), console.say("undo")], ["undone", "! NothingToUndo"])

    def test_values_that_are_no_string(self):
        console = console_of(line_of("0..9"))
        for value in [
            None, True, False, 0, 5, [], ["show"], ("undo",), (), {}, {"show": 1}, bounds("0"), sample(), Console(),
            SomeObject(), Book(sample()),
        ]:
            self.assertEqual(console.say(value), "! InvalidLine")
        self.assertEqual(console.say(line="show"), "place a 0..9")

    def test_errors_of_the_calls(self):
        console = console_of(line_of("3..5"))
        for line, answer in [
            ("read b 3", "! UnknownPlace"), ("read b 9", "! UnknownPlace"), ("read a 2", "! Contradiction"),
            ("read a 6..9", "! Contradiction"), ("undo", "! NothingToUndo"), ("count 1 0", "! InvalidLevels"),
            ("water b", "! UnknownPlace"), ("takers b", "! UnknownPlace"), ("alone b", "! UnknownPlace"),
            ("chart a", "! InvalidText"), ("chart chart", "! InvalidText"),
        ]:
            self.assertEqual(console.say(line), answer, line)
            self.assertEqual((console.say("show"), console.say("undo")), ("place a 3..5", "! NothingToUndo"))

    def test_questions_change_nothing(self):
        console = console_of(example())
        console.say("read a 1..3")
        before = console.say("show")
        for turn in range(2):
            for line in asked():
                self.assertEqual(console.say(line), console.say(line))
        self.assertEqual((console.say("show"), console.say("undo")), (before, "undone"))


class TestSaid(unittest.TestCase):

    def test_line_by_line(self):
        lines = [
            line_for(example()), *asked(), "read a 1..2", 5, *asked(), None, "read a 7", ["undo"], "undo", "undo", "",
            "chart x", *asked(), "chart", "show",
        ]
        given = list(lines)
        one, other = Console(), Console()
        self.assertEqual(one.said(given), [other.say(line) for line in lines])
        self.assertEqual(given, lines)
        self.assertEqual(one.said(lines=["show", "undo"]), ["-", "! NothingToUndo"])

    def test_no_lines(self):
        console = Console()
        self.assertEqual(console.said([]), [])
        self.assertIsNot(console.said([]), console.said([]))
        self.assertIs(type(console.said(["show"])), list)

    def test_consoles_are_apart(self):
        one, other = Console(), Console()
        one.say("chart place a 1")
        self.assertEqual(other.said(["show"]), ["-"])

    def test_a_show_is_a_text_again(self):
        for chart in some_charts(40, 123):
            if len(chart):
                self.assertIs(read_chart(console_of(chart).say("show").replace("; ", "\n")) == chart, True)


if __name__ == "__main__":
    unittest.main()
