"""Water that stands at the places of a land until it can leave at an outlet."""

from surehollows.bounds import is_whole
from surehollows.charts import check_chart, check_place
from surehollows.errors import InvalidDepth, NoOutlet
from surehollows.floods import flood, high_heights, levels_from, low_heights, way_back
from surehollows.lands import Land, check_land


def outlet_heights(chart, heights):
    """Return a dict from each outlet to its height."""
    return {name: heights[name] for name in chart.outlets()}


def water_levels(chart, heights):
    """Return a dict from each place that has a water level to this level."""
    return levels_from(chart, heights, outlet_heights(chart, heights))


def waters(land):
    """Return a dict from each place that has a water level to its water, in ascending order of names."""
    levels = water_levels(land.chart, land.heights())
    return {name: levels[name] - land(name) for name in land.chart.names() if name in levels}


def water_level(land, name):
    """Return the water level of a place, or None."""
    check_land(land)
    check_place(land.chart, name)
    return water_levels(land.chart, land.heights()).get(name)


def water(land, name):
    """Return the water of a place, or None if it has no water level."""
    check_land(land)
    check_place(land.chart, name)
    return waters(land).get(name)


def total_water(land):
    """Return the sum of the water of all places that have a water level."""
    check_land(land)
    return sum(list(waters(land).values()))


def dry_land(chart):
    """Return the land in which the least water stands at every place."""
    check_chart(chart)
    levels = water_levels(chart, low_heights(chart))
    highs = high_heights(chart)
    return Land(chart, {name: min(highs[name], levels.get(name, highs[name])) for name in highs})


def least_water(chart, name):
    """Return the least water that the place has in any land, or None if it has no water level."""
    return water(dry_land(chart), name)


def wet_land(chart, name):
    """Return the land in which the place is as low as it can be and all others are as high as they can be."""
    check_chart(chart)
    check_place(chart, name)
    heights = high_heights(chart)
    heights[name] = chart[name].low
    return Land(chart, heights)


def greatest_water(chart, name):
    """Return the greatest water that the place has in any land, or None if it has no water level."""
    return water(wet_land(chart, name), name)


def least_total(chart):
    """Return the least total water of any land."""
    return total_water(dry_land(chart))


def land_with_water(chart, name, depth):
    """Return a land in which the water of the place is depth."""
    greatest = greatest_water(chart, name)
    if greatest is None:
        raise NoOutlet(name)
    if not is_whole(depth) or not least_water(chart, name) <= depth <= greatest:
        raise InvalidDepth(depth)
    bounds = chart[name]
    # If water can stand here at all, low + greatest is the highest level at which the other places can hold it.
    # The place rises until just depth is left below that level; if it cannot rise so far, the level sinks instead.
    height = min(bounds.high, bounds.low + greatest - depth)
    heights = Land.clipped(chart, height + depth).heights()
    heights[name] = height
    return Land(chart, heights)


def surely_wet(chart):
    """Return the places at which water stands in every land."""
    least = waters(dry_land(chart))
    return [name for name in least if least[name] > 0]


def never_wet(chart):
    """Return the places that have a water level and at which water stands in no land."""
    check_chart(chart)
    return [name for name in chart.names() if greatest_water(chart, name) == 0]


def escape(chart, name):
    """Return a way to an outlet whose greatest low bound is the water level in the dry land, or None."""
    check_chart(chart)
    check_place(chart, name)
    lows = low_heights(chart)
    # No place of the dry land is higher than its water level in the land of all low bounds, so both lands have the
    # same water levels.
    levels, sources = flood(chart, lows, outlet_heights(chart, lows))
    return way_back(sources, name) if name in levels else None
