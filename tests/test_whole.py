"""What holds over the whole program: the general rules [9], [10], and charts that come of others [11]."""

import itertools
import random
import unittest

from surehollows import (
    bounds as bounds_file, calm, charttexts, drain, forms, hills, lands, parting, passes, sure, water
)
from surehollows.book import Book
from surehollows.bounds import Bounds
from surehollows.charts import Chart
from surehollows.console import Console
from surehollows.forms import Form, form
from surehollows.lands import Land
from surehollows.office import Office
from surehollows.sheets import Sheet
from tests.helper import chart_of, drawn_bounds, face, level_pairs, levels_around, look, some_charts, some_sheets, spoil


def shown(value):
    """Any value of the package or of Python in a form that can be compared and that later changes do not reach."""
    if isinstance(value, Chart):
        return ("chart", look(value))
    if isinstance(value, Land):
        return ("land", look(value.chart), value.heights())
    if isinstance(value, Sheet):
        return ("sheet", face(value))
    if isinstance(value, Bounds):
        return ("bounds", str(value))
    if isinstance(value, Form):
        return ("form", shown(value.borders()), shown([value.classes(level) for level in levels_around()]), value.closed())
    if isinstance(value, Book):
        return ("book", look(value.now), value.history())
    if isinstance(value, Office):
        return ("office", look(value.whole()), value.hollows())
    if isinstance(value, Console):
        return ("console", value.said(["show"]))
    if isinstance(value, (list, tuple)):
        return (type(value), [shown(item) for item in value])
    if isinstance(value, dict):
        return {key: shown(item) for key, item in value.items()}
    return value


def example():
    """A chart with hollows, outlets and two parts."""
    texts = {"a": "0..2", "b": "3..8", "c": "1", "d": "0..1", "e": "4..9", "f": "1..3", "g": "2..5"}
    return chart_of(texts, "ab bc cd de ef", "cg")


def sheets():
    one = Sheet(chart_of({"m": "1..4", "n": "2..6", "x": "0", "y": "3..5"}, "mx yn my"), ["m", "n"])
    two = Sheet(chart_of({"m": "1..4", "n": "2..6", "z": "2..3"}, "mz", "n"), ["m", "n"])
    return one, two


def questions():
    """All calls that change nothing: tuples of a function and its arguments by their names, in their order."""
    chart, (one, two) = example(), sheets()
    land = Land.lowest(chart)
    yield from questions_of_charts(chart, land)
    yield from questions_of_lands(land)
    limits = Bounds(0, 5)
    yield from [
        (bounds_file.is_height, {"value": 3}), (bounds_file.is_name, {"value": "a"}), (Bounds, {"low": 1, "high": 2}),
        (limits.holds, {"other": Bounds(1, 2)}), (Bounds.exact, {"height": 4}), (Bounds.from_text, {"text": "3..4"}),
        (charttexts.read_chart, {"text": "place a 1\nplace b 2..3\ntie a b"}),
        (Book, {"chart": chart}), (Book(chart).history, {}), (Book(chart).hollows, {}),
        (Sheet, {"chart": chart, "borders": ["a", "c"]}), (Sheet, {"chart": chart}), (one.borders, {}), (one.inner, {}),
        (one.glue, {"other": two}), (one.kept, {"names": ["n"]}), (forms.form, {"sheet": one}),
        (form(one).borders, {}), (form(one).classes, {"level": 3}), (form(one).closed, {}),
        (form(one).sure_count, {"low": 0, "high": 3}), (form(one).glue, {"other": form(two)}),
        (form(one).kept, {"names": ["m"]}), (form(one).short, {}),
        (parting.equal_everywhere, {"one": one, "other": two}), (parting.parting, {"one": one, "other": two}),
    ]
    office = Office({"s": one, "t": two}, ("s", "t"))
    yield from [
        (Office, {"sheets": {"s": one, "t": two}, "plan": ("s", "t")}), (office.sheet, {"name": "s"}), (office.whole, {}),
        (office.hollows, {}), (office.least_depths, {}), (office.sure_count, {"low": 1, "high": 2}),
        (office.part_form, {"plan": "t"}), (office.part_form, {"plan": ("s", "t")}), (Console, {}),
        (Console().say, {"line": "show"}), (Console().said, {"lines": ["show", "calm", 3]}),
    ]


def questions_of_charts(chart, land):
    regions, reason = [("d", ["d"]), ("f", ["f"])], ("c", ["c"], 1, ["c"])
    other = chart.with_bounds("a", Bounds(0, 5))
    return [
        (Chart, {"places": {"a": Bounds(0, 1), "b": Bounds(2, 2)}, "ties": [("a", "b")]}), (Chart, {"places": {}}),
        (chart.names, {}), (chart.ties, {}), (chart.outlets, {}), (chart.neighbours, {"name": "b"}), (chart.parts, {}),
        (chart.with_bounds, {"name": "a", "bounds": Bounds(1, 1)}), (chart.turned, {}), (chart.narrower, {"other": other}),
        (charttexts.chart_text, {"chart": chart}), (Land, {"chart": chart, "heights": land.heights()}),
        (Land.lowest, {"chart": chart}), (Land.highest, {"chart": chart}), (Land.clipped, {"chart": chart, "level": 3}),
        (passes.is_way, {"chart": chart, "value": ["a", "b"]}), (passes.low_pass, {"chart": chart, "one": "a", "other": "d"}),
        (passes.high_pass, {"chart": chart, "one": "a", "other": "d"}),
        (passes.low_way, {"chart": chart, "one": "a", "other": "d"}),
        (passes.high_way, {"chart": chart, "one": "a", "other": "d"}),
        (passes.rim, {"chart": chart, "name": "a", "level": 9}),
        (passes.is_rim, {"chart": chart, "name": "a", "level": 3, "value": ["a"]}),
        (sure.sure_regions, {"chart": chart, "low": 3, "high": 3}), (sure.sure_count, {"chart": chart, "low": 3, "high": 3}),
        (sure.sure_hollows, {"chart": chart}), (sure.least_depths, {"chart": chart}),
        (sure.least_deeper, {"chart": chart, "depth": 0}), (sure.deep_regions, {"chart": chart, "depth": 0}),
        (sure.is_separate, {"chart": chart, "low": 3, "high": 3, "value": regions}),
        (sure.is_deep, {"chart": chart, "depth": 0, "value": regions}),
        (calm.roots, {"chart": chart}), (calm.calm_land, {"chart": chart}), (calm.calm_way, {"chart": chart, "name": "e"}),
        (calm.is_calm, {"chart": chart, "land": land}), (calm.surplus, {"chart": chart, "land": land}),
        (water.dry_land, {"chart": chart}), (water.least_water, {"chart": chart, "name": "a"}),
        (water.greatest_water, {"chart": chart, "name": "a"}), (water.wet_land, {"chart": chart, "name": "a"}),
        (water.least_total, {"chart": chart}), (water.land_with_water, {"chart": chart, "name": "a", "depth": 3}),
        (water.surely_wet, {"chart": chart}), (water.never_wet, {"chart": chart}),
        (water.escape, {"chart": chart, "name": "a"}), (drain.may_take, {"chart": chart, "name": "a"}),
        (drain.alone, {"chart": chart, "name": "a"}), (drain.land_for, {"chart": chart, "name": "a", "outlet": "c"}),
        (drain.why_not, {"chart": chart, "name": "c", "outlet": "g"}),
        (drain.is_why_not, {"chart": chart, "name": "c", "outlet": "g", "value": reason}),
        (hills.sure_hills, {"chart": chart}), (hills.level_land, {"chart": chart}),
    ]


def questions_of_lands(land):
    return [
        (land, {"name": "a"}), (land.heights, {}), (land.pinned, {}), (lands.basin, {"land": land, "name": "a", "level": 3}),
        (lands.basins, {"land": land, "level": 3}), (lands.closed_count, {"land": land, "low": 0, "high": 1}),
        (lands.hollows, {"land": land}), (lands.depths, {"land": land}), (lands.deeper, {"land": land, "depth": 1}),
        (passes.pass_level, {"land": land, "one": "a", "other": "d"}), (water.water_level, {"land": land, "name": "a"}),
        (water.water, {"land": land, "name": "a"}), (water.total_water, {"land": land}),
        (drain.takers, {"land": land, "name": "a"}), (hills.hills, {"land": land}),
    ]


class TestQuestions(unittest.TestCase):

    def test_by_position_and_by_names_in_any_order(self):
        for call, named in questions():
            first = shown(call(*named.values()))
            for order in itertools.permutations(named):
                self.assertEqual(shown(call(**{name: named[name] for name in order})), first, call)
            for count in range(len(named)):
                late = dict(list(named.items())[count:])
                self.assertEqual(shown(call(*list(named.values())[:count], **late)), first, call)

    def test_equal_calls_give_equal_results(self):
        for call, named in questions():
            first = shown(call(**named))
            for other, others in questions():
                if not isinstance(getattr(other, "__self__", None), Console):
                    other(**others)
            self.assertEqual(shown(call(**named)), first, call)
        for (call, named), (other, others) in zip(questions(), questions()):
            self.assertEqual(shown(call(**named)), shown(other(**others)), call)

    def test_arguments_are_never_modified(self):
        for call, named in questions():
            before, held = shown(named), shown(getattr(call, "__self__", None))
            call(**named)
            self.assertEqual(shown(named), before, call)
            if not isinstance(call, Land) and not isinstance(getattr(call, "__self__", None), type):
                self.assertEqual(shown(getattr(call, "__self__", None)), held, call)

    def test_what_was_returned_may_be_changed(self):
        for call, named in questions():
            first, kept = call(**named), shown(named)
            before = shown(first)
            self.assertEqual(shown(call(**named)), before, call)
            spoil(first)
            self.assertEqual(shown(call(**named)), before, call)
            self.assertEqual(shown(named), kept, call)

    def test_what_was_passed_may_be_changed(self):
        places, ties, outlets = {"a": Bounds(0, 1), "b": Bounds(2, 2)}, [["a", "b"]], ["b"]
        chart = Chart(places, ties, outlets=outlets)
        heights, borders = {"a": 0, "b": 2}, ["a"]
        land, sheet = Land(chart, heights), Sheet(chart, borders)
        parts = {"s": sheet}
        office = Office(parts, "s")
        before = shown([chart, land, sheet, office])
        for value in [places, ties[0], ties, outlets, heights, borders, parts]:
            value.clear()
        self.assertEqual(shown([chart, land, sheet, office]), before)


def answers(chart):
    """What the program answers about a chart."""
    lines = ["show", "hollows", "hills", "depths", "calm", "dry"]
    lines += [f"{word} {name}" for word in ("water", "takers", "alone") for name in chart.names()]
    console = Console()
    console.say("chart " + charttexts.chart_text(chart) if len(chart) else "chart")
    sheet = Sheet(chart, chart.names()[:3])
    land = calm.calm_land(chart)
    found = [console.said(lines), form(sheet), form(sheet).short(), calm.roots(chart), lands.hollows(land)]
    found += [sure.sure_regions(chart, low, high) for low, high in level_pairs()]
    found += [sure.deep_regions(chart, depth) for depth in range(3)]
    found += [hills.level_land(chart, outlets=chart.outlets()), water.surely_wet(chart), water.never_wet(chart)]
    found += [water.wet_land(chart, name) for name in chart.names()]
    found += [passes.high_pass(chart, one, other) for one in chart.names() for other in chart.names()]
    return shown(found)


def anew(chart):
    """An equal chart, made of a dict in another order, of ties the other way round, and of new Bounds."""
    places = {name: Bounds(chart[name].low, chart[name].high) for name in chart.names()[::-1]}
    return Chart(places, [(b, a) for a, b in chart.ties()[::-1]], outlets=chart.outlets()[::-1])


def charts_of(chart, chance):
    """Charts that come of this one in many ways."""
    yield chart
    yield chart.turned(outlets=chart.names()[:1])
    yield chart.turned().turned(outlets=chart.outlets())
    yield charttexts.read_chart(charttexts.chart_text(chart))
    yield calm.calm_land(chart).pinned()
    yield Land.highest(chart).chart
    book = Book(chart)
    for name in chart.names():
        yield chart.with_bounds(name, drawn_bounds(chance, 3))
        book.read(name, Bounds.exact(chance.randint(chart[name].low, chart[name].high)))
        yield book.now
    if len(chart):
        book.undo()
        yield book.now
    sheet = Sheet(chart, chart.names()[:3])
    yield sheet.kept([]).chart
    yield sheet.glue(Sheet(Chart({"zz": Bounds(0, 1)}))).chart
    yield form(sheet).short().chart
    office = Office({"s": sheet, "t": Sheet(Chart({}))}, ("s", "t"))
    yield office.whole()
    for name in chart.names()[:2]:
        office.read(name, Bounds.exact(chart[name].high))
        yield office.whole()
        yield office.sheet("s").chart


class TestChartsThatComeOfOthers(unittest.TestCase):

    def test_they_answer_as_charts_made_anew(self):
        chance = random.Random(131)
        for chart in some_charts(30, 131, most=6):
            for other in charts_of(chart, chance):
                self.assertIs(other == anew(other), True)
                self.assertEqual(answers(other), answers(anew(other)))

    def test_a_chart_that_is_cut_and_glued_again(self):
        chance = random.Random(132)
        for chart in some_charts(80, 132, most=8):
            borders = chart.names()[:chance.randint(0, len(chart))]
            left, right = self.halves(chart, borders, chance)
            whole = left.glue(right).chart
            places = {name: chart[name] for name in chart.names()}
            expected = Chart(places, left.chart.ties() + right.chart.ties(), outlets=chart.outlets())
            self.assertEqual(answers(whole), answers(expected))
            found = form(left).glue(form(right))
            self.assertEqual(shown(found), shown(form(Sheet(expected, borders))))
            self.assertEqual(found.kept([]).closed(), form(Sheet(expected)).closed())
            office = Office({"s": left, "t": right}, ("t", "s"))
            self.assertEqual(answers(office.whole()), answers(expected))
            for low, high in level_pairs():
                self.assertEqual(found.sure_count(low, high), sure.sure_count(expected, low, high))

    def halves(self, chart, borders, chance):
        """Two sheets with these border places; the other places lie in one of them, with the ties inside it."""
        sides = {name: chance.choice([0, 1]) for name in chart.names() if name not in borders}
        made = []
        for side in [0, 1]:
            places = {name: chart[name] for name in chart.names() if sides.get(name, side) == side}
            ties = [tie for tie in chart.ties() if tie[0] in places and tie[1] in places]
            outlets = [name for name in chart.outlets() if name in places]
            made.append(Sheet(Chart(places, ties, outlets=outlets), borders))
        return made

    def test_a_sheet_and_its_short_sheet_in_an_office(self):
        for sheet in some_sheets(60, 133, most=6):
            other = Sheet(Chart({name: sheet.chart[name] for name in sheet.borders()}), sheet.borders())
            one = Office({"s": sheet, "t": other}, ("s", "t"))
            two = Office({"s": form(sheet).short(), "t": other}, ("s", "t"))
            self.assertEqual((one.hollows(), one.least_depths()), (two.hollows(), two.least_depths()))
            self.assertIs(one.part_form("s") == two.part_form("s"), True)


if __name__ == "__main__":
    unittest.main()
