"""Passes: how high one must climb on the way from one place to another."""

from surehollows.bounds import check_height
from surehollows.charts import are_places, check_chart, check_place, part_around, tied_outside
from surehollows.floods import flood, high_heights, levels_from, low_heights, way_back
from surehollows.lands import check_land


def is_way(chart, value):
    """Tell whether any value is a list that is a way in the chart."""
    check_chart(chart)
    if not are_places(chart, value) or len(value) == 0:
        return False
    return all([other in chart.neighbours(one) for one, other in zip(value, value[1:])])


def check_passes(chart, one, other):
    """Raise the error that these arguments of low_pass call for."""
    check_chart(chart)
    check_place(chart, one)
    check_place(chart, other)


def least_pass(chart, heights, one, other):
    """Return the least pass of all ways between two places, or None."""
    return levels_from(chart, heights, {one: heights[one]}).get(other)


def least_way(chart, heights, one, other):
    """Return a way from one place to another one with the least pass, or None."""
    # The sources lead back to the start: so the flood begins where the way ends.
    levels, sources = flood(chart, heights, {other: heights[other]})
    return way_back(sources, one) if one in levels else None


def pass_level(land, one, other):
    """Return the least pass of all ways from one place to the other in the land, or None."""
    check_land(land)
    check_passes(land.chart, one, other)
    return least_pass(land.chart, land.heights(), one, other)


def low_pass(chart, one, other):
    """Return the pass level in the land of all low bounds, or None."""
    check_passes(chart, one, other)
    return least_pass(chart, low_heights(chart), one, other)


def high_pass(chart, one, other):
    """Return the pass level in the land of all high bounds, or None."""
    check_passes(chart, one, other)
    return least_pass(chart, high_heights(chart), one, other)


def low_way(chart, one, other):
    """Return a way whose pass is the pass level in the land of all low bounds, or None."""
    check_passes(chart, one, other)
    return least_way(chart, low_heights(chart), one, other)


def high_way(chart, one, other):
    """Return a way whose pass is the pass level in the land of all high bounds, or None."""
    check_passes(chart, one, other)
    return least_way(chart, high_heights(chart), one, other)


def check_rim(chart, name, level):
    """Raise the error that these arguments of rim call for."""
    check_chart(chart)
    check_place(chart, name)
    check_height(level)


def rim(chart, name, level):
    """Return the places to which a way leads from the place on which all low bounds are below the level."""
    check_rim(chart, name, level)
    below = [other for other in chart.names() if chart[other].low < level]
    return part_around(chart, name, below) if name in below else []


def is_rim(chart, name, level, value):
    """Tell whether any value is a list of places that no way leaves below the level."""
    check_rim(chart, name, level)
    if not are_places(chart, value):
        return False
    if name not in value and chart[name].low < level:
        return False
    return all([chart[other].low >= level for other in tied_outside(chart, value, value)])
