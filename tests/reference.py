"""What the document defines, found from the definitions alone by trying everything; for small charts."""


def ways(chart, start):
    """All ways that begin at the place."""
    found = [[start]]
    for way in found:
        found.extend(way + [name] for name in chart.neighbours(way[-1]) if name not in way)
    return found


def ways_between(chart, one, other):
    return [way for way in ways(chart, one) if way[-1] == other]


def top_of(heights, way):
    return max(heights[name] for name in way)


def least_pass(chart, heights, one, other):
    return min([top_of(heights, way) for way in ways_between(chart, one, other)], default=None)


def parts(chart, names):
    """The parts of a set of places: groups that are merged by the ties inside the set."""
    groups = [[name] for name in names]
    for one, other in chart.ties():
        if one in names and other in names:
            left = next(group for group in groups if one in group)
            right = next(group for group in groups if other in group)
            if left != right:
                groups = [group for group in groups if group not in (left, right)] + [left + right]
    return sorted(sorted(group) for group in groups)


def lows(chart):
    return {name: chart[name].low for name in chart.names()}


def highs(chart):
    return {name: chart[name].high for name in chart.names()}


def part_at(chart, joins, level, name):
    """The part at the level that contains the place, which must have joined."""
    joined = [other for other in joins if joins[other] <= level]
    return next(part for part in parts(chart, joined) if name in part)


def closed_at(chart, joins, births, low, high):
    """The parts at the level high without outlets and with a place born by low: [5] and [7]."""
    joined = [name for name in joins if joins[name] <= high]
    return [
        part for part in parts(chart, joined)
        if not set(part) & set(chart.outlets()) and any(births[name] <= low for name in part)
    ]


def hollows(chart, joins, births):
    """The hollows [6] or sure hollows [8] as tuples (place, birth, death)."""
    def is_over(name, level):
        part = part_at(chart, joins, level, name)
        return any(other in chart.outlets() or (births[other], other) < (births[name], name) for other in part)

    found = []
    for name in joins:
        if not is_over(name, births[name]):
            levels = range(births[name], max(joins.values()) + 1)
            found.append((name, births[name], next((level for level in levels if is_over(name, level)), None)))
    return sorted(found, key=lambda hollow: (hollow[1], hollow[0]))


def living(found, low, high):
    """How many hollows are born by low and live beyond high."""
    return len([name for name, birth, death in found if birth <= low and (death is None or death > high)])


def depths(found):
    finite = sorted([death - birth for _, birth, death in found if death is not None], reverse=True)
    return [None for _, _, death in found if death is None] + finite


def deeper(found, depth):
    return len([number for number in depths(found) if number is None or number > depth])


def rim(chart, name, level):
    """The ends of the ways on which all low bounds are below the level."""
    return sorted({way[-1] for way in ways(chart, name) if top_of(lows(chart), way) < level})


def water_level(chart, heights, name):
    tops = [top_of(heights, way) for way in ways(chart, name) if way[-1] in chart.outlets()]
    return min(tops, default=None)


def water(land, name):
    level = water_level(land.chart, land.heights(), name)
    return None if level is None else level - land(name)


def courses(chart, name):
    """All courses from the place to any outlet."""
    outlets = chart.outlets()
    return [way for way in ways(chart, name) if way[-1] in outlets and not set(way[:-1]) & set(outlets)]


def takers(land, name):
    tops = [(top_of(land.heights(), course), course[-1]) for course in courses(land.chart, name)]
    return sorted({outlet for top, outlet in tops if top == min(tops)[0]})


def sure_count(chart, low, high):
    return len(closed_at(chart, lows(chart), highs(chart), low, high))


def border_classes(sheet, level):
    """The border classes of a sheet at the level, as the document describes them: [104]."""
    chart = sheet.chart
    drained, found = [], []
    for part in parts(chart, [name for name in chart.names() if chart[name].low <= level]):
        names = [name for name in part if name in sheet.borders()]
        least = min(chart[name].high for name in part)
        if set(part) & set(chart.outlets()):
            drained += names
        elif names:
            found.append((sorted(names), least if least <= level else None))
    return sorted(found + ([(sorted(drained), "outlet")] if drained else []), key=lambda one: one[0])


def in_order(pairs):
    """Pairs (birth, death) in ascending order, the death None last among equal births."""
    return sorted(pairs, key=lambda pair: (pair[0], pair[1] is None, pair[1] or 0))


def closed_hollows(sheet):
    """The closed hollows of a sheet: the sure hollows of the chart whose border places are outlets, too."""
    chart = sheet.chart
    drained = type(chart)(
        {name: chart[name] for name in chart.names()}, chart.ties(), outlets=chart.outlets() + sheet.borders())
    return in_order([(birth, death) for name, birth, death in hollows(drained, lows(drained), highs(drained))])
