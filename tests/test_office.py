"""Offices [113] to [115], [11] (d)."""

import random
import unittest

from surehollows.bounds import Bounds
from surehollows.charts import Chart
from surehollows.errors import (
    Contradiction, DuplicateName, InvalidHeight, InvalidLevels, InvalidPlan, Mismatch, NotBounds, NothingToUndo, TooLarge,
    UnknownPlace, UnknownSheet
)
from surehollows.forms import form
from surehollows.office import Office
from surehollows.sheets import Sheet
from surehollows.sure import least_depths, sure_count
from tests import reference
from tests.helper import (
    SomeObject, bounds, chart_of, check_fresh, drawn_places, drawn_sheet, face, level_pairs, look, many_names, no_bounds,
    no_heights, no_places, no_sheets, raised, refused, sample
)


def plain(names, borders, text="0..5"):
    """A sheet of places without ties, all of the same bounds."""
    return Sheet(Chart({name: bounds(text) for name in names}), borders)


def three():
    """Three sheets that have m together, two of them n, and o that lies in one alone."""
    return {
        "s": Sheet(chart_of({"m": "1..4", "x": "0..3", "o": "2"}, "mx xo"), ["m", "o"]),
        "t": Sheet(chart_of({"m": "1..4", "y": "2..3", "n": "5..9"}, "my yn", "n"), ["m", "n"]),
        "u": Sheet(chart_of({"m": "1..4", "n": "5..9", "w": "0..9"}, "mw"), ["m", "n"]),
    }


def office():
    return Office(three(), (("s", "t"), "u"))


def state(held):
    """All that an office of these three sheets tells, but for the forms."""
    sheets = [face(held.sheet(name)) for name in "stu"]
    counts = [held.sure_count(low, high) for low, high in level_pairs()]
    return (look(held.whole()), held.hollows(), held.least_depths(), counts, sheets)


def glued(sheets):
    """All sheets glued together one by one."""
    whole = Sheet(Chart({}))
    for sheet in sheets:
        whole = whole.glue(sheet)
    return whole


def drawn_office(chance, top=4):
    """Sheets that can be glued together, and a plan of them."""
    count = chance.randint(1, 5)
    names = chance.sample(["s", "t", "u", "v", "w"], count)
    borders = drawn_places(chance, chance.sample("abcdefgh", chance.randint(0, 8)), top)
    sheets = {}
    for name in names:
        own = {place: borders[place] for place in borders if chance.random() < 0.6}
        inner = [name + other for other in many_names(chance.randint(0, 4))]
        sheets[name] = drawn_sheet(chance, inner, own, top)
    return sheets, drawn_plan(chance, names)


def drawn_plan(chance, names):
    if len(names) == 1:
        return names[0]
    cut = chance.randint(1, len(names) - 1)
    return (drawn_plan(chance, names[:cut]), drawn_plan(chance, names[cut:]))


def plans_in(plan):
    return [plan] + ([other for item in plan for other in plans_in(item)] if isinstance(plan, tuple) else [])


class TestOffice(unittest.TestCase):

    def test_plans(self):
        sheets = three()
        for plan in [
            (("s", "t"), "u"), ("u", ("t", "s")), (("u", "s"), "t"), ("t", ("s", "u")),
        ]:
            self.assertEqual(look(Office(sheets, plan).whole()), look(glued(sheets.values()).chart))
        self.assertEqual(look(Office({"s": sheets["s"]}, "s").whole()), look(sheets["s"].chart))
        self.assertEqual(look(Office(plan=("t", "s"), sheets={"s": sheets["s"], "t": sheets["t"]}).whole()),
                         look(sheets["s"].glue(sheets["t"]).chart))

    def test_no_sheets(self):
        sheet = Sheet(sample(), ["a"])
        for value in [
            None, True, False, 0, "", "s", [], (), {}, [sheet], (sheet,), sheet, {1: sheet}, {"S": sheet}, {"": sheet},
            {"abcdefghi": sheet}, {"s": sheet, "a b": sheet}, {"s": None}, {"s": sample()}, {"s": "s"}, {"s": [sheet]},
            {"s": sheet, "t": form(sheet)}, {0: None}, SomeObject(), *[{"s": value} for value in no_sheets()],
        ]:
            for plan in ["s", ("s", "t"), None, 0]:
                self.assertIs(raised(self, InvalidPlan, Office, value, plan).value, value)

    def test_no_plans(self):
        for plan in [
            "s", "x", "", ("s", "t"), ("s", ("t", "t")), (("s", "t"), ("u", "s")), (("s", "t"), ("u", "x")),
            ["s", ("t", "u")], ("s", ["t", "u"]), [["s", "t"], "u"], ("s", "t", "u"), (("s",), ("t", "u")),
            ((("s", "t"), "u"),), (), ("s", ()), (("s", "t", "u"), ()), ("s", ("t", None)), ("s", ("t", 0)),
            ("s", ("t", ("u", "u"))), (("s", "t"), Sheet(sample())), "stu", ("st", "u"), (("s", "t"), "u", "u"),
            {"s": "t"}, (("s", "t"), {"u": 1}), *[value for value in no_places() if value != "a"], office(),
        ]:
            self.assertIs(raised(self, InvalidPlan, Office, three(), plan).value, plan)
        one = {"s": three()["s"]}
        for plan in [("s", "s"), ("s",), ["s"], "t", None, "S", ("s", "t"), True, ()]:
            self.assertIs(raised(self, InvalidPlan, Office, one, plan).value, plan)

    def test_the_plan_comes_before_the_places(self):
        sheets = {"s": plain(["a"], []), "t": plain(["a"], [])}
        plan = ("s", "u")
        self.assertIs(raised(self, InvalidPlan, Office, sheets, plan).value, plan)
        self.assertEqual(raised(self, DuplicateName, Office, sheets, ("s", "t")).name, "a")

    def test_place_by_place(self):
        def made(one, other, third):
            return {name: Sheet(chart_of(texts), list(borders)) for name, (texts, borders) in zip("stu", (one, other, third))}

        same = ({"a": "1", "b": "2", "c": "3"}, "abc")
        for other, third, kind, name in [
            (({"a": "1"}, "a"), ({"a": "1"}, ""), DuplicateName, "a"), (({"a": "2"}, "a"), ({"a": "1"}, ""), DuplicateName, "a"),
            (({"a": "2"}, "a"), ({"b": "2"}, ""), Mismatch, "a"), (({"b": "2"}, "b"), ({"b": "1..2"}, "b"), Mismatch, "b"),
            (({"c": "3"}, ""), ({"b": "1..2"}, "b"), Mismatch, "b"), (({"c": "9"}, "c"), ({"b": "2"}, ""), DuplicateName, "b"),
            (({"d": "9"}, "d"), ({"d": "9"}, ""), DuplicateName, "d"), (({"d": "9"}, "d"), ({"d": "8"}, "d"), Mismatch, "d"),
            (({"d": "9"}, ""), ({"d": "9"}, ""), DuplicateName, "d"),
        ]:
            for turn in range(3):
                sheets = [same, other, third]
                sheets = made(*sheets[turn:], *sheets[:turn])
                self.assertEqual(raised(self, kind, Office, sheets, ("s", ("t", "u"))).name, name)

    def test_too_many_places_and_border_places(self):
        names = many_names(70)
        first = plain(names[:30], names[26:30])
        sheets = {"s": first, "t": plain(names[26:60], names[26:30]), "u": plain(names[26:28], names[26:28])}
        self.assertEqual(len(Office(sheets, ("s", ("t", "u"))).whole()), 60)
        for count in [61, 66]:
            more = {**sheets, "u": plain(names[26:28] + names[60:count], names[26:28])}
            self.assertEqual(raised(self, TooLarge, Office, more, ("s", ("t", "u"))).count, count)
        sheets = {"s": plain(names[:3], names[:3]), "t": plain(names[2:6], names[2:6]), "u": plain(names[5:8], names[5:8])}
        self.assertEqual(len(Office(sheets, ("s", ("t", "u"))).whole()), 8)
        for end in [9, 12]:
            more = {**sheets, "u": plain(names[5:end], names[5:end])}
            self.assertEqual(raised(self, TooLarge, Office, more, ("s", ("t", "u"))).count, end)
        both = {"s": plain(names[:40], names[:8]), "t": plain(names[40:], names[40:48])}
        self.assertEqual(raised(self, TooLarge, Office, both, ("s", "t")).count, 70)
        both = {"s": plain(names[:40], names[:8]), "t": plain(names[39:], names[40:48])}
        self.assertEqual(raised(self, DuplicateName, Office, both, ("s", "t")).name, names[39])

    def test_a_dict_that_is_changed_afterwards(self):
        sheets = three()
        held = Office(sheets, (("s", "t"), "u"))
        before = state(held)
        sheets["s"] = plain(["k"], [])
        del sheets["t"]
        self.assertEqual(state(held), before)
        self.assertEqual(sorted(sheets), ["s", "u"])
        other = dict(reversed(list(three().items())))
        self.assertEqual(state(Office(other, (("s", "t"), "u"))), before)

    def test_many_sheets(self):
        names = many_names(8)
        sheets = {name: plain([name, "m"], ["m"]) for name in names}
        plan = ((("aa", "ab"), ("ac", "ad")), (("ae", "af"), ("ag", "ah")))
        self.assertEqual(Office(sheets, plan).whole().names(), sorted([*names, "m"]))


class TestReading(unittest.TestCase):

    def test_inner_and_border_places(self):
        for name, text, after, holders in [
            ("x", "1..2", "1..2", "s"), ("x", "-5..1", "0..1", "s"), ("x", "0..3", "0..3", "s"), ("x", "3..9", "3", "s"),
            ("m", "2..3", "2..3", "stu"), ("m", "4..9", "4", "stu"), ("m", "-3..20", "1..4", "stu"), ("n", "6", "6", "tu"),
            ("o", "2", "2", "s"), ("w", "9", "9", "u"),
        ]:
            held = office()
            self.assertIs(held.read(name, bounds(text)), None)
            for key, sheet in three().items():
                expected = Sheet(sheet.chart.with_bounds(name, bounds(after)), sheet.borders()) if key in holders else sheet
                self.assertEqual(face(held.sheet(key)), face(expected))
            self.assertEqual(look(held.whole()), look(office().whole().with_bounds(name, bounds(after))))
            self.assertIs(held.undo(), None)
            self.assertEqual(state(held), state(office()))

    def test_undo_to_the_beginning(self):
        held = office()
        told = []
        for name, text in [("m", "2..9"), ("m", "0..9"), ("x", "1"), ("n", "5..8"), ("m", "2"), ("x", "0..1")]:
            told.append(state(held))
            held.read(bounds=bounds(text), name=name)
        for before in told[::-1]:
            held.undo()
            self.assertEqual(state(held), before)
        for turn in range(2):
            self.assertEqual(vars(raised(self, NothingToUndo, held.undo)), {})
        self.assertEqual(state(held), state(office()))
        held.read("m", bounds("3"))
        self.assertEqual(str(held.whole()["m"]), "3")

    def test_errors_in_order(self):
        held = office()
        held.read("m", bounds("2..4"))
        before = state(held)
        refused(self, UnknownPlace, lambda value: held.read(value, bounds("3")), no_places())
        refused(self, UnknownPlace, lambda value: held.read(value, None), [*no_places(), "s", held])
        for name in ["m", "x", "n"]:
            refused(self, NotBounds, lambda value: held.read(name, value), [*no_bounds(), held])
        for name, present, text in [("m", "2..4", "1"), ("m", "2..4", "5..9"), ("x", "0..3", "4"), ("n", "5..9", "-3..4")]:
            given = bounds(text)
            error = raised(self, Contradiction, held.read, name, given)
            self.assertEqual(str(error.one), present)
            self.assertIs(error.other, given)
        self.assertEqual(state(held), before)
        held.undo()
        self.assertEqual(state(held), state(office()))

    def test_offices_and_sheets_are_apart(self):
        sheets = three()
        faces = {name: face(sheets[name]) for name in sheets}
        one, other = Office(sheets, (("s", "t"), "u")), Office(sheets, ("s", ("t", "u")))
        kept = one.sheet("s")
        one.read("m", bounds("4"))
        one.read("x", bounds("3"))
        self.assertEqual({name: face(sheets[name]) for name in sheets}, faces)
        self.assertEqual((state(other), face(kept)), (state(office()), faces["s"]))


class TestAnswers(unittest.TestCase):

    def check_answers(self, held, sheets, plan):
        """Check all answers against the chart of these sheets glued together."""
        whole = glued(sheets.values())
        chart = whole.chart
        self.assertEqual(look(held.whole()), look(chart))
        found = reference.hollows(chart, reference.lows(chart), reference.highs(chart))
        self.assertEqual(held.hollows(), reference.in_order([(birth, death) for name, birth, death in found]))
        self.assertEqual(held.least_depths(), reference.depths(found))
        self.assertEqual(held.least_depths(), least_depths(chart))
        for low, high in level_pairs():
            self.assertEqual(held.sure_count(low, high), sure_count(chart, low, high))
        for name in sheets:
            self.assertEqual(face(held.sheet(name)), face(sheets[name]))
        for part in plans_in(plan):
            inside = [name for name in plans_in(part) if isinstance(name, str)]
            outside = [sheets[name] for name in sheets if name not in inside]
            within = glued([sheets[name] for name in inside])
            shared = [name for name in within.borders() if any(name in sheet.chart for sheet in outside)]
            self.assertIs(held.part_form(part) == form(within.kept(shared)), True)

    def narrowed(self, sheets, name, limits):
        return {
            key: Sheet(sheet.chart.with_bounds(name, sheet.chart[name] & limits), sheet.borders()) if name in sheet.chart
            else sheet for key, sheet in sheets.items()}

    def test_behind_each_deed(self):
        chance = random.Random(115)
        for turn in range(60):
            sheets, plan = drawn_office(chance)
            held = Office(sheets, plan)
            before = [sheets]
            self.check_answers(held, sheets, plan)
            for deed in range(5):
                names = held.whole().names()
                if names and chance.random() < 0.7:
                    name = chance.choice(names)
                    present = held.whole()[name]
                    height = chance.randint(present.low, present.high)
                    limits = Bounds(chance.randint(height - 2, height), chance.randint(height, height + 2))
                    held.read(name, limits)
                    before.append(self.narrowed(before[-1], name, limits))
                elif len(before) > 1:
                    held.undo()
                    before.pop()
                self.check_answers(held, before[-1], plan)

    def test_hollows_in_the_order_of_closed(self):
        sheets = {"s": plain(["a", "b"], []), "t": Sheet(chart_of({"c": "0..5", "d": "6", "e": "3", "f": "0..5"}, "cd de df"))}
        held = Office(sheets, ("s", "t"))
        self.assertEqual(held.hollows(), [(3, None), (5, 6), (5, 6), (5, None), (5, None)])
        self.assertEqual(held.hollows(), form(Sheet(held.whole())).closed())

    def test_unknown_sheets(self):
        held = office()
        refused(self, UnknownSheet, held.sheet, [*no_places(), "x", "m", "st", ("s", "t"), held.sheet("s"), held])
        self.assertEqual(face(held.sheet(name="s")), face(three()["s"]))

    def test_levels(self):
        held = office()
        refused(self, InvalidHeight, lambda value: held.sure_count(value, 0), no_heights())
        refused(self, InvalidHeight, lambda value: held.sure_count(value, None), no_heights())
        refused(self, InvalidHeight, lambda value: held.sure_count(0, value), no_heights())
        error = raised(self, InvalidLevels, held.sure_count, 5, 4)
        self.assertEqual((error.low, error.high), (5, 4))
        self.assertEqual(held.sure_count(high=5, low=4), held.sure_count(4, 5))

    def test_border_places_that_are_kept(self):
        held = office()
        for plan, names in [
            ("s", ["m"]), ("t", ["m", "n"]), ("u", ["m", "n"]), (("s", "t"), ["m", "n"]), ((("s", "t"), "u"), []),
        ]:
            self.assertEqual(list(held.part_form(plan=plan).borders()), names)
        held = Office(three(), ("s", ("t", "u")))
        self.assertEqual(list(held.part_form(("t", "u")).borders()), ["m"])
        self.assertIs(held.part_form(("s", ("t", "u"))) == form(Sheet(held.whole())), True)

    def test_other_plans(self):
        held = office()
        for plan in [
            ("t", "s"), ("u", ("s", "t")), ("s", ("t", "u")), ("t", "u"), ("s", "u"), "x", "", ["s", "t"], [["s", "t"], "u"],
            ("s", "s"), ("s",), (("s", "t"),), ("s", "t", "u"), (("s", "t"), "u", "u"), {"s": "t"}, {"s": 1}, held,
            *no_places(), three()["s"],
        ]:
            self.assertIs(raised(self, InvalidPlan, held.part_form, plan).value, plan)

    def test_what_was_returned_may_be_changed(self):
        held = office()
        check_fresh(self, held.hollows)
        check_fresh(self, held.least_depths)
        check_fresh(self, lambda: held.whole().names())
        check_fresh(self, lambda: held.sheet("s").borders())
        check_fresh(self, lambda: held.part_form("t").closed())
        self.assertEqual(state(held), state(office()))
        earlier = held.part_form("s")
        held.read("x", bounds("3"))
        self.assertIs(earlier == office().part_form("s"), True)
        self.assertIs(earlier == held.part_form("s"), False)


if __name__ == "__main__":
    unittest.main()
