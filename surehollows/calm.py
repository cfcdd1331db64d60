"""The calm land, which has as few hollows as possible for every depth at the same time."""

from surehollows.charts import check_chart, check_place
from surehollows.errors import NotLand
from surehollows.floods import flood, levels_from, low_heights, way_back
from surehollows.lands import Land, hollows
from surehollows.pairs import pairs_of, surplus_levels
from surehollows.sure import sure_hollows


def roots(chart):
    """Return the roots in ascending order of (high bound, name)."""
    return [root for root, birth, death in sure_hollows(chart)]


def calm_starts(chart):
    """Return a dict from the places to which calm ways lead to their heights in the calm land."""
    starts = {name: chart[name].low for name in chart.outlets()}
    # No root is an outlet, so none of these heights replaces one of those.
    starts.update({name: chart[name].high for name in roots(chart)})
    return starts


def calm_land(chart):
    """Return the calm land of a chart."""
    check_chart(chart)
    return Land(chart, levels_from(chart, low_heights(chart), calm_starts(chart)))


def calm_way(chart, name):
    """Return a way to a root or an outlet on which the calm land is nowhere higher than at the place."""
    check_chart(chart)
    check_place(chart, name)
    levels, sources = flood(chart, low_heights(chart), calm_starts(chart))
    return way_back(sources, name)


def is_calm(chart, land):
    """Tell whether the land has no more closed basins than the chart has sure regions, at all levels."""
    return surplus(chart, land) is None


def surplus(chart, land):
    """Return the least levels (low, high) with more closed basins than sure regions, or None if there are none."""
    check_chart(chart)
    if not isinstance(land, Land) or land.chart != chart:
        raise NotLand(land)
    return surplus_levels(pairs_of(hollows(land)), pairs_of(sure_hollows(chart)))
