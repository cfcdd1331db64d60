"""Values and checks that several tests use."""

import itertools
import random

from surehollows.bounds import Bounds
from surehollows.charts import Chart
from surehollows.lands import Land
from surehollows.sheets import Sheet

MOST = 10 ** 12


def odd_values():
    """Values of many kinds; none of them is a height, a name, a Bounds or a Chart."""
    return [
        None, True, False, "", "A", "a b", "abcdefghi", [], ["a"], (), ("a",), {"a": 1}, {1: "a"}, [[]], [{}],
        MOST + 1, -MOST - 1, SomeObject(),
    ]


class SomeObject:
    """An object of no class of the package."""


def bounds(text):
    """Bounds from a text, to write charts shortly."""
    return Bounds.from_text(text)


def sample():
    """A chart with two parts, ties and outlets."""
    places = {"d": bounds("-4..7"), "a": bounds("0..1"), "c": bounds("5"), "b": bounds("-9..-2"), "e": bounds("3..4")}
    return Chart(places, [("b", "a"), ("d", "b"), ("c", "e")], outlets=["e", "a"])


def chart_of(texts, ties="", outlets=""):
    """A chart from texts of bounds, ties such as `ab bc` of names of one letter, and outlets such as `bd`."""
    places = {name: bounds(text) for name, text in texts.items()}
    return Chart(places, [tuple(tie) for tie in ties.split()], outlets=list(outlets))


def line_of(*texts, outlets=""):
    """A chart whose places a, b, .. lie in one line."""
    names = "abcdefghijklmnopqrstuvwxyz"[:len(texts)]
    ties = " ".join(names[k:k + 2] for k in range(len(names) - 1))
    return chart_of(dict(zip(names, texts)), ties, outlets)


def long_line():
    """A chart of sixty places in one line with high and low places by turns, and the names along the line."""
    names = many_names(60)[::-1]
    places = {name: Bounds.exact(k if k % 2 == 0 else 1000 - k) for k, name in enumerate(names)}
    return Chart(places, list(zip(names, names[1:]))), names


def many_names(count):
    """The first names of two letters, in ascending order."""
    letters = "abcdefghijklmnopqrstuvwxyz"
    return [one + other for one in letters for other in letters][:count]


def some_charts(count, seed, most=4, top=3, widest=3):
    """Charts of at most so many places with small heights, chosen blindly, but always the same for one seed."""
    chance = random.Random(seed)
    charts = [Chart({})]
    while len(charts) < count:
        names = chance.sample("abcdefgh", chance.randint(1, most))
        places = {}
        for name in names:
            low = chance.randint(-1, top)
            places[name] = Bounds(low, min(top, low + chance.randint(0, widest)))
        density = chance.choice([0.3, 0.6, 0.8])
        ties = [pair for pair in itertools.combinations(names, 2) if chance.random() < density]
        outlets = [name for name in names if chance.random() < chance.choice([0, 0.3])]
        charts.append(Chart(places, ties, outlets=outlets))
    return charts


def drawn_bounds(chance, top):
    """Bounds of heights up to top, chosen blindly."""
    low = chance.randint(0, top)
    return Bounds(low, min(top, low + chance.choice([0, 0, 1, 2, top])))


def drawn_places(chance, names, top):
    """Places with these names and bounds that are chosen blindly."""
    return {name: drawn_bounds(chance, top) for name in names}


def drawn_sheet(chance, names, borders, top):
    """A sheet with inner places of these names and border places of these bounds, the rest chosen blindly."""
    places = {**borders, **drawn_places(chance, names, top)}
    density, drained = chance.choice([0.1, 0.2, 0.4, 0.7]), chance.choice([0, 0.1, 0.3])
    ties = [pair for pair in itertools.combinations(places, 2) if chance.random() < density]
    return Sheet(Chart(places, ties, outlets=[name for name in places if chance.random() < drained]), list(borders))


def some_sheets(count, seed, most=9, top=4):
    """Sheets of at most so many inner places and up to eight border places, always the same for one seed."""
    chance = random.Random(seed)
    sheets = [Sheet(Chart({}))]
    while len(sheets) < count:
        borders = drawn_places(chance, chance.sample("pqrstuvw", chance.randint(0, 8)), top)
        sheets.append(drawn_sheet(chance, many_names(chance.randint(0, most)), borders, top))
    return sheets


def face(sheet):
    """All that a sheet tells."""
    return (look(sheet.chart), sheet.borders(), sheet.inner())


def no_sheets():
    """Values of many kinds that are no sheet."""
    return [*odd_values(), 0, "a", {}, bounds("0"), sample(), Land.lowest(sample()), face(Sheet(sample()))]


def no_lists_or_tuples():
    """Values of many kinds that are neither a list nor a tuple."""
    return [None, True, False, 0, 7, "", "a", "ab", {}, {"a": 1}, bounds("0"), sample(), Sheet(sample()), SomeObject()]


def no_bounds():
    """Values of many kinds that are no Bounds."""
    return [*odd_values(), 3, "3..5", (3, 5), [3, 5], "a", sample(), Land.lowest(sample()), Sheet(sample())]


def lands_of(chart):
    """All lands of a chart."""
    names = chart.names()
    ranges = [range(chart[name].low, chart[name].high + 1) for name in names]
    return [Land(chart, dict(zip(names, heights))) for heights in itertools.product(*ranges)]


def some_lands(chart, count, seed):
    """Some lands of a chart, chosen blindly: bounds and heights between them."""
    chance = random.Random(seed)
    found = [Land.lowest(chart), Land.highest(chart)]
    while len(found) < count:
        heights = {}
        for name in chart.names():
            low, high = chart[name].low, chart[name].high
            heights[name] = chance.choice([low, high, chance.randint(low, high)])
        found.append(Land(chart, heights))
    return found


def levels_around():
    """Levels at, between, below and above all small heights, in ascending order."""
    return list(range(-2, 6))


def level_pairs():
    """All pairs of such levels with low <= high."""
    return [(low, high) for low in levels_around() for high in levels_around() if low <= high]


def look(chart):
    """All that a chart tells of itself."""
    texts = {name: str(chart[name]) for name in chart.names()}
    near = [chart.neighbours(name) for name in chart.names()]
    return (chart.names(), texts, chart.ties(), chart.outlets(), near, chart.parts(), len(chart))


def raised(case, kind, call, *args, **named):
    """The error of exactly this class that the call must raise."""
    with case.assertRaises(kind) as caught:
        call(*args, **named)
    case.assertIs(type(caught.exception), kind)
    return caught.exception


def refused(case, kind, call, values):
    """Check that the call raises this error, which keeps the very value, for each of the values."""
    for value in values:
        error = raised(case, kind, call, value)
        case.assertIs(vars(error)[list(vars(error))[0]], value)


def no_charts():
    """Values of many kinds that are no chart."""
    return [*odd_values(), 0, "a", {}, {"a": bounds("0")}, bounds("0"), Land.lowest(sample()), look(sample())]


def no_lands():
    """Values of many kinds that are no land."""
    return [*odd_values(), 0, "a", {}, {"a": 0}, bounds("0"), sample(), Land.lowest(sample()).heights()]


def no_places():
    """Values of many kinds that are no place of a chart whose places have names of one letter from a to h."""
    return [*odd_values(), 0, 5, -1, "z", "ab", ("a", "b"), {}, bounds("0..1"), sample(), Land.lowest(sample())]


def no_heights():
    """Values of many kinds that are no height."""
    return [*odd_values(), "0", "5", "a", (5,), {}, bounds("5"), sample(), Land.lowest(sample()), 10 ** 29, -10 ** 29]


def no_depths():
    """Values of many kinds that are no integer from 0 to twice the greatest height."""
    return [value for value in no_heights() if value != MOST + 1] + [-1, 2 * MOST + 1, -2 * MOST]


def no_lists():
    """Values of many kinds that are no list."""
    return [None, True, False, 0, 1, "", "a", "ab", (), ("a",), {}, {"a": 1}, bounds("0"), sample(), SomeObject()]


def check_fresh(case, call):
    """Check that the call answers alike each time and that its answer, a list or dict, may be changed freely."""
    first = call()
    case.assertEqual(call(), first)
    case.assertIsNot(call(), first)
    spoil(call())
    case.assertEqual(call(), first)


def spoil(value):
    """Change a list or dict and all lists in it."""
    if isinstance(value, (list, tuple)):
        for item in value:
            spoil(item)
    if isinstance(value, (list, dict)):
        value.clear()


def before_or_equal(fewer, more):
    """Tell whether depths are at each index at most the others; a missing one is less, None is greater."""
    if len(fewer) > len(more):
        return False
    return all(other is None or (one is not None and one <= other) for one, other in zip(fewer, more))
