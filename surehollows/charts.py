"""Charts: places with bounds, some of them outlets, some of them tied."""

from surehollows.bounds import Bounds, is_name
from surehollows.errors import InvalidPlaces, InvalidTie, NotBounds, NotChart, TooLarge, UnknownPlace

MOST_PLACES = 60


def is_place(value, places):
    """Tell whether any value is one of the names in places."""
    # Not every value can be looked up in a dict.
    return isinstance(value, str) and value in places


def is_pair(value, places):
    """Tell whether any value is a list or tuple of two unlike names in places."""
    if not isinstance(value, (list, tuple)) or len(value) != 2:
        return False
    one, other = value
    return is_place(one, places) and is_place(other, places) and one != other


def check_chart(chart):
    """Raise NotChart unless the value is a chart."""
    if not isinstance(chart, Chart):
        raise NotChart(chart)


def check_place(chart, name):
    """Raise UnknownPlace unless the value is the name of a place of the chart."""
    if name not in chart:
        raise UnknownPlace(name)


def check_places(places):
    """Raise the error that these places of a chart call for."""
    if not isinstance(places, dict):
        raise InvalidPlaces(places)
    for name in places:
        if not is_name(name) or not isinstance(places[name], Bounds):
            raise InvalidPlaces(places)
    if len(places) > MOST_PLACES:
        raise TooLarge(len(places))


def check_ties(ties, places):
    """Raise the error that these ties between the places call for."""
    if not isinstance(ties, (list, tuple)):
        raise InvalidTie(ties)
    for item in ties:
        if not is_pair(item, places):
            raise InvalidTie(item)


def check_listed(listed, places):
    """Raise UnknownPlace for a value that is no list and no tuple, else for its first item that is no such place."""
    if not isinstance(listed, (list, tuple)):
        raise UnknownPlace(listed)
    for item in listed:
        if not is_place(item, places):
            raise UnknownPlace(item)


def check_bounds(bounds):
    """Raise NotBounds unless the value is a Bounds."""
    if not isinstance(bounds, Bounds):
        raise NotBounds(bounds)


def tied_places(names, ties):
    """Return a dict from each name to the names that are tied to it, in ascending order."""
    tied = {name: [] for name in names}
    for one, other in ties:
        if other not in tied[one]:
            tied[one].append(other)
            tied[other].append(one)
    return {name: sorted(tied[name]) for name in names}


def part_around(chart, start, names):
    """Return the part of the names, a set of places of the chart, that contains start."""
    found = {start: True}
    waiting = [start]
    while waiting:
        here = waiting.pop()
        for name in chart.neighbours(here):
            if name in names and name not in found:
                found[name] = True
                waiting.append(name)
    return sorted(found)


def parts_of(chart, names):
    """Return the parts of the names, a set of places of the chart, ordered by their first names."""
    inside = {name: True for name in names}
    found = {}
    parts = []
    for name in sorted(names):
        if name not in found:
            part = part_around(chart, name, inside)
            parts.append(part)
            found.update({member: True for member in part})
    return parts


def are_places(chart, value):
    """Tell whether any value is a list of places of the chart, no place twice."""
    if not isinstance(value, list) or not all([item in chart for item in value]):
        return False
    return len(set(value)) == len(value)


def tied_outside(chart, names, inside):
    """Return the places that are tied to one of the names and are not inside, each one once."""
    found = {}
    for name in names:
        found.update({other: True for other in chart.neighbours(name) if other not in inside})
    return list(found)


def places_of(chart):
    """Return a dict from the places of a chart, in ascending order, to their bounds."""
    return {name: chart[name] for name in chart.names()}


def narrowed(chart, name, bounds):
    """Return the chart in which the bounds of the place are the heights that also lie within these bounds."""
    check_place(chart, name)
    check_bounds(bounds)
    return chart.with_bounds(name, chart[name] & bounds)


class Chart:
    """A finite set of places with their bounds, ties and outlets; it never changes."""

    def __init__(self, places, ties=(), *, outlets=()):
        check_places(places)
        check_ties(ties, places)
        check_listed(outlets, places)
        ordered = sorted(places)
        self.bounds_by_name = {name: places[name] for name in ordered}
        self.tied_by_name = tied_places(ordered, ties)
        self.outlet_names = [name for name in ordered if name in outlets]

    def names(self):
        """Return the names of the places in ascending order."""
        return list(self.bounds_by_name)

    def ties(self):
        """Return the ties as tuples of a lesser and a greater name, in ascending order."""
        return [(one, other) for one in self.tied_by_name for other in self.tied_by_name[one] if one < other]

    def outlets(self):
        """Return the names of the outlets in ascending order."""
        return list(self.outlet_names)

    def neighbours(self, name):
        """Return the names of the places that are tied to this place, in ascending order."""
        check_place(self, name)
        return list(self.tied_by_name[name])

    def parts(self):
        """Return the parts of all places, ordered by their first names."""
        return parts_of(self, self.names())

    def with_bounds(self, name, bounds):
        """Return a chart that differs from this one in the bounds of one place alone."""
        check_place(self, name)
        check_bounds(bounds)
        return Chart({**self.bounds_by_name, name: bounds}, self.ties(), outlets=self.outlets())

    def turned(self, *, outlets=()):
        """Return the chart turned upside down, with the given outlets instead of its own."""
        places = {name: -self.bounds_by_name[name] for name in self.bounds_by_name}
        return Chart(places, self.ties(), outlets=outlets)

    def narrower(self, other):
        """Tell whether this chart is the other one with bounds that are nowhere wider."""
        check_chart(other)
        if self.tied_by_name != other.tied_by_name or self.outlet_names != other.outlet_names:
            return False
        return all([other[name].holds(self[name]) for name in self.names()])

    def __getitem__(self, name):
        check_place(self, name)
        return self.bounds_by_name[name]

    def __iter__(self):
        raise TypeError("a chart is not iterated over; its names are")

    def __contains__(self, value):
        return is_place(value, self.bounds_by_name)

    def __len__(self):
        return len(self.bounds_by_name)

    def __eq__(self, other):
        if not isinstance(other, Chart):
            return False
        if self.bounds_by_name != other.bounds_by_name:
            return False
        return self.tied_by_name == other.tied_by_name and self.outlet_names == other.outlet_names
