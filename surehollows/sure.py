"""Sure hollows, which every land of a chart has, and the regions in which they lie."""

from surehollows.bounds import check_depth, check_levels
from surehollows.charts import are_places, check_chart, is_place, part_around, tied_outside
from surehollows.floods import high_heights, low_heights
from surehollows.regions import (
    closed_parts, count_deeper, depths_of, has_outlet, hollows_of, is_deeper, low_places, rank
)


def check_sure_levels(chart, low, high):
    """Raise the error that these arguments of sure_regions call for."""
    check_chart(chart)
    check_levels(low, high)


def sure_regions(chart, low, high):
    """Return the sure regions as tuples (witness, names) in ascending order of the witnesses."""
    check_sure_levels(chart, low, high)
    highs = high_heights(chart)
    regions = []
    for names in closed_parts(chart, low_heights(chart), highs, low, high):
        height, witness = min([rank(highs, name) for name in names])
        regions.append((witness, names))
    return sorted(regions)


def sure_count(chart, low, high):
    """Return how many sure regions there are."""
    return len(sure_regions(chart, low, high))


def sure_hollows(chart):
    """Return the sure hollows as tuples (root, birth, death) in ascending order of (birth, root)."""
    check_chart(chart)
    return hollows_of(chart, low_heights(chart), high_heights(chart))


def least_depths(chart):
    """Return the depths of the sure hollows, None first, the others in descending order."""
    return depths_of(sure_hollows(chart))


def check_sure_depth(chart, depth):
    """Raise the error that these arguments of least_deeper call for."""
    check_chart(chart)
    check_depth(depth)


def least_deeper(chart, depth):
    """Return how many sure hollows are deeper than depth."""
    check_sure_depth(chart, depth)
    return count_deeper(sure_hollows(chart), depth)


def deep_regions(chart, depth):
    """Return a tuple (root, names) for each root with a deeper sure hollow, in ascending order of the roots."""
    check_sure_depth(chart, depth)
    lows = low_heights(chart)
    regions = []
    for hollow in sure_hollows(chart):
        if is_deeper(hollow, depth):
            root, birth, death = hollow
            regions.append((root, part_around(chart, root, low_places(lows, birth + depth))))
    return sorted(regions)


def is_region(chart, value):
    """Tell whether any value is a tuple of a witness and a list of places, with the witness and without outlets."""
    if not isinstance(value, tuple) or len(value) != 2:
        return False
    witness, names = value
    return are_places(chart, names) and is_place(witness, names) and not has_outlet(chart, names)


def are_regions(chart, value):
    """Tell whether any value is a list of such tuples that have no place in common."""
    if not isinstance(value, list) or not all([is_region(chart, item) for item in value]):
        return False
    return are_places(chart, [name for witness, names in value for name in names])


def is_walled(chart, names, level):
    """Tell whether all places around the names have low bounds above the level."""
    return all([chart[name].low > level for name in tied_outside(chart, names, names)])


def is_separate(chart, low, high, value):
    """Tell whether any value shows that every land has as many closed basins as it has entries."""
    check_sure_levels(chart, low, high)
    if not are_regions(chart, value):
        return False
    return all([chart[witness].high <= low and is_walled(chart, names, high) for witness, names in value])


def is_deep(chart, depth, value):
    """Tell whether any value shows that every land has as many hollows that are deeper as it has entries."""
    check_sure_depth(chart, depth)
    if not are_regions(chart, value):
        return False
    return all([is_walled(chart, names, chart[witness].high + depth) for witness, names in value])
