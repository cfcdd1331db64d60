"""Lands, which fit a chart, and their basins and hollows."""

from surehollows.bounds import Bounds, check_depth, check_height, check_levels
from surehollows.charts import Chart, check_chart, check_place, part_around, parts_of
from surehollows.errors import InvalidHeights, NotLand, OutOfBounds
from surehollows.floods import high_heights, low_heights
from surehollows.regions import closed_parts, count_deeper, depths_of, hollows_of, low_places


def are_heights_for(chart, value):
    """Tell whether any value is a dict whose keys are exactly the places of the chart."""
    if not isinstance(value, dict) or len(value) != len(chart):
        return False
    return all([name in value for name in chart.names()])


def nearest_height(bounds, level):
    """Return the height within the bounds that is nearest to the level."""
    return max(bounds.low, min(bounds.high, level))


class Land:
    """A chart with one height for each of its places; it never changes."""

    def __init__(self, chart, heights):
        check_chart(chart)
        if not are_heights_for(chart, heights):
            raise InvalidHeights(heights)
        for name in chart.names():
            if heights[name] not in chart[name]:
                raise OutOfBounds(name, heights[name])
        self.chart = chart
        self.height_by_name = {name: heights[name] for name in chart.names()}

    @classmethod
    def lowest(cls, chart):
        """Return the land in which each place has its low bound."""
        check_chart(chart)
        return cls(chart, low_heights(chart))

    @classmethod
    def highest(cls, chart):
        """Return the land in which each place has its high bound."""
        check_chart(chart)
        return cls(chart, high_heights(chart))

    @classmethod
    def clipped(cls, chart, level):
        """Return the land in which each place is as near to the level as its bounds allow."""
        check_chart(chart)
        check_height(level)
        return cls(chart, {name: nearest_height(chart[name], level) for name in chart.names()})

    def heights(self):
        """Return a dict from the names, in ascending order, to the heights."""
        return dict(self.height_by_name)

    def pinned(self):
        """Return the chart of which this is the only land."""
        places = {name: Bounds.exact(self.height_by_name[name]) for name in self.height_by_name}
        return Chart(places, self.chart.ties(), outlets=self.chart.outlets())

    def __call__(self, name):
        check_place(self.chart, name)
        return self.height_by_name[name]

    def __eq__(self, other):
        if not isinstance(other, Land):
            return False
        return self.chart == other.chart and self.height_by_name == other.height_by_name


def check_land(land):
    """Raise NotLand unless the value is a land."""
    if not isinstance(land, Land):
        raise NotLand(land)


def basin(land, name, level):
    """Return the basin at the level that contains the place; the empty list if the place is higher."""
    check_land(land)
    check_place(land.chart, name)
    check_height(level)
    if land(name) > level:
        return []
    return part_around(land.chart, name, low_places(land.heights(), level))


def basins(land, level):
    """Return all basins at the level, ordered by their first names."""
    check_land(land)
    check_height(level)
    return parts_of(land.chart, low_places(land.heights(), level))


def closed_count(land, low, high):
    """Return how many closed basins at the level high contain a place with a height of at most low."""
    check_land(land)
    check_levels(low, high)
    return len(closed_parts(land.chart, land.heights(), land.heights(), low, high))


def hollows(land):
    """Return the hollows as tuples (bottom, birth, death) in ascending order of (birth, bottom)."""
    check_land(land)
    return hollows_of(land.chart, land.heights(), land.heights())


def depths(land):
    """Return the depths of all hollows, None first, the others in descending order."""
    return depths_of(hollows(land))


def deeper(land, depth):
    """Return how many hollows are deeper than depth."""
    check_land(land)
    check_depth(depth)
    return count_deeper(hollows(land), depth)
