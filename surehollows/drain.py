"""The outlets through which the water of a place leaves."""

from surehollows.bounds import MOST_HEIGHT, is_height
from surehollows.charts import are_places, check_chart, check_place, is_place, part_around, tied_outside
from surehollows.errors import UnknownPlace
from surehollows.floods import flood, high_heights, levels_from, low_heights, way_back
from surehollows.lands import Land, check_land
from surehollows.passes import is_way
from surehollows.regions import has_outlet


def levels_on_courses(chart, heights, name):
    """Return the least pass to each place that a way reaches without going through an outlet before its end."""
    return levels_from(chart, heights, {name: heights[name]}, chart.outlets())


def course_passes(chart, heights, name):
    """Return a dict from each outlet to which a course leads to the least pass of these courses."""
    levels = levels_on_courses(chart, heights, name)
    return {outlet: levels[outlet] for outlet in chart.outlets() if outlet in levels}


def takers(land, name):
    """Return the outlets to which a course with the least pass leads."""
    check_land(land)
    check_place(land.chart, name)
    passes = course_passes(land.chart, land.heights(), name)
    least = min(list(passes.values()), default=None)
    return [outlet for outlet in passes if passes[outlet] == least]


def may_take(chart, name):
    """Return the outlets that take the water of the place in some land."""
    check_chart(chart)
    check_place(chart, name)
    lows = course_passes(chart, low_heights(chart), name)
    highs = course_passes(chart, high_heights(chart), name)
    return [outlet for outlet in lows if all([lows[outlet] <= highs[other] for other in highs])]


def alone(chart, name):
    """Return the outlet that is the only taker of the place in every land, or None."""
    check_chart(chart)
    check_place(chart, name)
    lows = course_passes(chart, low_heights(chart), name)
    highs = course_passes(chart, high_heights(chart), name)
    for outlet in highs:
        if all([highs[outlet] < lows[other] for other in lows if other != outlet]):
            return outlet
    return None


def check_outlet(chart, name, outlet):
    """Raise the error that these arguments of land_for call for."""
    check_chart(chart)
    check_place(chart, name)
    if not is_place(outlet, chart.outlets()):
        raise UnknownPlace(outlet)


def land_for(chart, name, outlet):
    """Return a land in which the outlet takes the water of the place, or None if there is none."""
    check_outlet(chart, name, outlet)
    if outlet not in may_take(chart, name):
        return None
    # In this land a course to the outlet has this pass, and no course to another outlet has a lower one.
    return Land.clipped(chart, course_passes(chart, low_heights(chart), name)[outlet])


def why_not(chart, name, outlet):
    """Return what shows that the outlet takes the water of the place in no land, or None."""
    check_outlet(chart, name, outlet)
    if outlet in may_take(chart, name):
        return None
    passes = course_passes(chart, high_heights(chart), name)
    if not passes:
        return (None, [], MOST_HEIGHT, part_around(chart, name, chart.names()))
    # This is never the outlet itself: if no other one has a lower pass, it may take the water.
    level, other = min([(passes[other], other) for other in passes])
    lows = levels_on_courses(chart, low_heights(chart), name)
    return (other, high_course(chart, name, other), level, [place for place in lows if lows[place] <= level])


def high_course(chart, name, other):
    """Return a course from the place to the outlet with the least pass of all high bounds."""
    highs = high_heights(chart)
    levels, sources = flood(chart, highs, {name: highs[name]}, chart.outlets())
    return way_back(sources, other)[::-1]


def is_course(chart, name, outlet, value):
    """Tell whether any value is a course from the place to the outlet."""
    if not is_way(chart, value) or value[0] != name or value[-1] != outlet:
        return False
    return not has_outlet(chart, value[:-1])


def shuts_out(chart, name, outlet, level, value):
    """Tell whether any value is a list of places with the place that no course to the outlet leaves up to the level."""
    if not are_places(chart, value) or name not in value or outlet in value:
        return False
    outlets = chart.outlets()
    inner = [place for place in value if place not in outlets]
    return all([chart[place].low > level for place in tied_outside(chart, inner, value)])


def is_better(chart, name, outlet, other, course, level):
    """Tell whether the course leads to another outlet than this one and is nowhere higher than level in any land."""
    if not is_place(other, chart.outlets()) or other == outlet or not is_course(chart, name, other, course):
        return False
    return all([chart[place].high <= level for place in course])


def is_why_not(chart, name, outlet, value):
    """Tell whether any value shows that the outlet takes the water of the place in no land."""
    check_outlet(chart, name, outlet)
    if not isinstance(value, tuple) or len(value) != 4:
        return False
    other, course, level, places = value
    if not is_height(level) or not shuts_out(chart, name, outlet, level, places):
        return False
    if other is not None:
        return is_better(chart, name, outlet, other, course, level)
    return course == [] and level == MOST_HEIGHT and not has_outlet(chart, places)
