"""What the hollows of a land and the sure hollows of a chart have in common.

Each place has two numbers here: lows tells at which level it joins its neighbours, highs at which one a hollow of it
is born. In a land both are its height, in a chart they are its low and its high bound.
"""

from surehollows.charts import parts_of
from surehollows.floods import levels_from


def low_places(lows, level):
    """Return the places that have joined at the level, in the order of lows."""
    return [name for name in lows if lows[name] <= level]


def has_outlet(chart, names):
    """Tell whether an outlet of the chart is among the names."""
    outlets = chart.outlets()
    return any([name in outlets for name in names])


def closed_parts(chart, lows, highs, low, high):
    """Return the parts at the level high that contain no outlet, but a place that is born by low."""
    parts = []
    for part in parts_of(chart, low_places(lows, high)):
        if not has_outlet(chart, part) and min([highs[name] for name in part]) <= low:
            parts.append(part)
    return parts


def rank(highs, name):
    """Return what tells which one of two places is deeper or ranks before the other one: the lesser rank."""
    return (highs[name], name)


def end_level(chart, lows, highs, name):
    """Return the least level at which an outlet or a place of lesser rank is in one part with the place, or None."""
    outlets = chart.outlets()
    levels = levels_from(chart, lows, {name: lows[name]})
    ends = [levels[other] for other in levels if other in outlets or rank(highs, other) < rank(highs, name)]
    return min(ends, default=None)


def hollows_of(chart, lows, highs):
    """Return the hollows as tuples (place, birth, death) in ascending order of (birth, place)."""
    found = []
    for birth, name in sorted([rank(highs, name) for name in lows]):
        death = end_level(chart, lows, highs, name)
        if death is None or death > birth:
            found.append((name, birth, death))
    return found


def is_deeper(hollow, depth):
    """Tell whether a hollow is deeper than the depth."""
    name, birth, death = hollow
    return death is None or death - birth > depth


def count_deeper(found, depth):
    """Return how many of these hollows are deeper than the depth."""
    return len([hollow for hollow in found if is_deeper(hollow, depth)])


def depths_of(found):
    """Return the depths of these hollows, None first, the others in descending order."""
    numbers = [death - birth for name, birth, death in found if death is not None]
    return [None] * (len(found) - len(numbers)) + sorted(numbers, reverse=True)
