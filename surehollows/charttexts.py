"""Charts as text, one line for each place and for each tie."""

from surehollows.bounds import Bounds, ends_in, is_name
from surehollows.charts import MOST_PLACES, Chart, check_chart, is_pair
from surehollows.errors import InvalidText


def chart_text(chart):
    """Return the text of a chart."""
    check_chart(chart)
    outlets = chart.outlets()
    lines = []
    for name in chart.names():
        word = "outlet" if name in outlets else "place"
        lines.append(f"{word} {name} {str(chart[name])}")
    for one, other in chart.ties():
        lines.append(f"tie {one} {other}")
    return "\n".join(lines)


def writes_place(words, places):
    """Tell whether the words of a line write a place that may stand behind these places."""
    if len(words) != 3 or words[0] not in ("place", "outlet"):
        return False
    if not is_name(words[1]) or words[1] in places or len(places) >= MOST_PLACES:
        return False
    return ends_in(words[2]) is not None


def writes_tie(words, places, ties):
    """Tell whether the words of a line write a tie between two of these places that is not among these ties."""
    if words[0] != "tie" or not is_pair(words[1:], places):
        return False
    return tuple(sorted(words[1:])) not in ties


def read_chart(text):
    """Return the chart with this text, whose lines may stand in another order."""
    if not isinstance(text, str):
        raise InvalidText(0)
    places = {}
    ties = {}
    outlets = []
    # The empty text has no line, although it can be split into one.
    lines = text.split("\n") if text else []
    for index, line in enumerate(lines):
        words = line.split(" ")
        if writes_place(words, places):
            places[words[1]] = Bounds.from_text(words[2])
            if words[0] == "outlet":
                outlets.append(words[1])
        elif writes_tie(words, places, ties):
            ties[tuple(sorted(words[1:]))] = True
        else:
            raise InvalidText(index)
    return Chart(places, list(ties), outlets=outlets)
