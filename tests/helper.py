"""Values and checks that several tests use."""

from surehollows.bounds import Bounds
from surehollows.charts import Chart

MOST = 10 ** 12


def odd_values():
    """Values of many kinds; none of them is a height, a name, a Bounds or a Chart."""
    return [
        None, True, False, "", "A", "a b", "abcdefghi", [], ["a"], (), ("a",), {"a": 1}, {1: "a"}, [[]], [{}],
        MOST + 1, -MOST - 1, SomeObject(),
    ]


class SomeObject:
    """An object of no class of the package."""


def bounds(text):
    """Bounds from a text, to write charts shortly."""
    return Bounds.from_text(text)


def sample():
    """A chart with two parts, ties and outlets."""
    places = {"d": bounds("-4..7"), "a": bounds("0..1"), "c": bounds("5"), "b": bounds("-9..-2"), "e": bounds("3..4")}
    return Chart(places, [("b", "a"), ("d", "b"), ("c", "e")], outlets=["e", "a"])


def many_names(count):
    """The first names of two letters, in ascending order."""
    letters = "abcdefghijklmnopqrstuvwxyz"
    return [one + other for one in letters for other in letters][:count]


def look(chart):
    """All that a chart tells of itself."""
    texts = {name: str(chart[name]) for name in chart.names()}
    near = [chart.neighbours(name) for name in chart.names()]
    return (chart.names(), texts, chart.ties(), chart.outlets(), near, chart.parts(), len(chart))


def raised(case, kind, call, *args, **named):
    """The error of exactly this class that the call must raise."""
    with case.assertRaises(kind) as caught:
        call(*args, **named)
    case.assertIs(type(caught.exception), kind)
    return caught.exception
