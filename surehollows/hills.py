"""Hills: the hollows of a land or of a chart that is turned upside down."""

from surehollows.calm import calm_land
from surehollows.charts import check_chart
from surehollows.lands import Land, check_land, hollows
from surehollows.sure import sure_hollows


def turned_heights(land):
    """Return a dict from the places of a land to their negated heights."""
    heights = land.heights()
    return {name: -heights[name] for name in heights}


def hills_of(found):
    """Return the hills that these hollows of something turned stand for."""
    # The hollows ascend by (birth, name), so the hills descend by top and ascend by name.
    return [(peak, -birth, None if death is None else -death) for peak, birth, death in found]


def hills(land, *, outlets=()):
    """Return the hills as tuples (peak, top, foot), descending by top, those with equal tops by name."""
    check_land(land)
    return hills_of(hollows(Land(land.chart.turned(outlets=outlets), turned_heights(land))))


def sure_hills(chart, *, outlets=()):
    """Return the hills that every land of the chart has, in the form and order of hills."""
    check_chart(chart)
    return hills_of(sure_hollows(chart.turned(outlets=outlets)))


def level_land(chart, *, outlets=()):
    """Return a land that has no other hills than the sure ones."""
    check_chart(chart)
    return Land(chart, turned_heights(calm_land(chart.turned(outlets=outlets))))
