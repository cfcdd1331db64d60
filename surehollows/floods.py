"""How high one must climb from some places to reach the others."""


def low_heights(chart):
    """Return a dict from each place of a chart to its low bound."""
    return {name: chart[name].low for name in chart.names()}


def high_heights(chart):
    """Return a dict from each place of a chart to its high bound."""
    return {name: chart[name].high for name in chart.names()}


def flood(chart, heights, starts, stops=()):
    """Flood the chart from the starts, a dict from places to the levels at which they begin.

    Returns a dict from each place that is reached to the least level at which it is, and a dict from it to the
    place through which it is reached so, or to None where it begins itself. No way leads on from the stops.
    """
    levels = {}
    sources = {name: None for name in starts}
    waiting = dict(starts)
    while waiting:
        # No other place can lower the level of the lowest one that waits, so its level is final.
        level, here = min([(waiting[name], name) for name in waiting])
        del waiting[here]
        levels[here] = level
        onward = [] if here in stops else chart.neighbours(here)
        for name in onward:
            reach = max(level, heights[name])
            if name not in levels and (name not in waiting or reach < waiting[name]):
                waiting[name] = reach
                sources[name] = here
    return levels, sources


def levels_from(chart, heights, starts, stops=()):
    """Return the least level at which each place is reached from the starts, as flood does."""
    levels, sources = flood(chart, heights, starts, stops)
    return levels


def way_back(sources, name):
    """Return the way from a place that was reached to the start from which it was."""
    way = []
    while name is not None:
        way.append(name)
        name = sources[name]
    return way
