"""Sheets: charts that can be glued together along border places."""

from surehollows.charts import MOST_PLACES, Chart, check_chart, check_listed, is_place, places_of
from surehollows.errors import DuplicateName, Mismatch, NotBorder, NotSheet, TooLarge

MOST_BORDERS = 8


def check_sheet(sheet):
    """Raise NotSheet unless the value is a sheet."""
    if not isinstance(sheet, Sheet):
        raise NotSheet(sheet)


def check_most(names, most):
    """Raise TooLarge if there are more names than this."""
    if len(names) > most:
        raise TooLarge(len(names))


def check_kept(names, borders):
    """Raise NotBorder for a value that is no list and no tuple, else for its first item that is no border place."""
    if not isinstance(names, (list, tuple)):
        raise NotBorder(names)
    for item in names:
        if not is_place(item, borders):
            raise NotBorder(item)


def holders_of(sheets):
    """Return a dict from the places of the sheets, in ascending order, to the sheets that have them."""
    holders = {}
    for sheet in sheets:
        for name in sheet.chart.names():
            holders.setdefault(name, []).append(sheet)
    return {name: holders[name] for name in sorted(holders)}


def check_common(name, holders):
    """Raise the error that a place calls for which several sheets have."""
    if not all([name in sheet.borders() for sheet in holders]):
        raise DuplicateName(name)
    if not all([sheet.chart[name] == holders[0].chart[name] for sheet in holders]):
        raise Mismatch(name)


def border_names_of(sheets):
    """Return the border places of the sheets, each one once, in ascending order."""
    return sorted({name for sheet in sheets for name in sheet.borders()})


def check_glue(sheets):
    """Raise the error that sheets which are to be glued together call for."""
    holders = holders_of(sheets)
    for name in holders:
        if len(holders[name]) > 1:
            check_common(name, holders[name])
    check_most(holders, MOST_PLACES)
    check_most(border_names_of(sheets), MOST_BORDERS)


def glued(sheets):
    """Return the sheet that these sheets give when they are glued together."""
    check_glue(sheets)
    places = {}
    ties = []
    outlets = []
    for sheet in sheets:
        places.update(places_of(sheet.chart))
        ties.extend(sheet.chart.ties())
        outlets.extend(sheet.chart.outlets())
    return Sheet(Chart(places, ties, outlets=outlets), border_names_of(sheets))


class Sheet:
    """A chart some places of which are border places; it never changes."""

    def __init__(self, chart, borders=()):
        check_chart(chart)
        check_listed(borders, chart)
        names = [name for name in chart.names() if name in borders]
        check_most(names, MOST_BORDERS)
        self.chart = chart
        self.border_names = names

    def borders(self):
        """Return the border places in ascending order."""
        return list(self.border_names)

    def inner(self):
        """Return the other places in ascending order."""
        return [name for name in self.chart.names() if name not in self.border_names]

    def glue(self, other):
        """Return the sheet that this one and the other one give when they are glued together."""
        check_sheet(other)
        return glued([self, other])

    def kept(self, names):
        """Return the sheet with the same chart in which only these places are still border places."""
        check_kept(names, self.border_names)
        return Sheet(self.chart, names)

    def __eq__(self, other):
        return isinstance(other, Sheet) and self.chart == other.chart and self.border_names == other.border_names
