"""Offices: many sheets that are glued together by a plan, and measurements in them."""

from surehollows.bounds import is_name
from surehollows.charts import is_place, narrowed
from surehollows.errors import InvalidPlan, NothingToUndo, UnknownPlace, UnknownSheet
from surehollows.forms import form
from surehollows.pairs import pairs_of
from surehollows.sheets import Sheet, check_glue, glued
from surehollows.sure import least_depths, sure_count, sure_hollows


def are_sheets(value):
    """Tell whether any value is a dict from names to sheets that is not empty."""
    if not isinstance(value, dict) or len(value) == 0:
        return False
    return all([is_name(name) and isinstance(value[name], Sheet) for name in value])


def is_plan(value, sheets):
    """Tell whether any value is a plan of some of the sheets."""
    if isinstance(value, tuple):
        return len(value) == 2 and all([is_plan(item, sheets) for item in value])
    return is_place(value, sheets)


def plans_in(plan):
    """Return the plan and all plans that occur in it."""
    found = [plan]
    if isinstance(plan, tuple):
        for item in plan:
            found.extend(plans_in(item))
    return found


def sheets_in(plan):
    """Return the names of the sheets of a plan."""
    return [item for item in plans_in(plan) if isinstance(item, str)]


def check_office(sheets, plan):
    """Raise the error that these arguments of an office call for."""
    if not are_sheets(sheets):
        raise InvalidPlan(sheets)
    if not is_plan(plan, sheets) or sorted(sheets_in(plan)) != sorted(sheets):
        raise InvalidPlan(plan)
    check_glue(list(sheets.values()))


class Office:
    """Sheets with common border places, which may be narrowed by measurements."""

    def __init__(self, sheets, plan):
        check_office(sheets, plan)
        self.sheet_by_name = {name: sheets[name] for name in sorted(sheets)}
        self.plan = plan
        # The sheets as they were before each measurement.
        self.earlier = []

    def read(self, name, bounds):
        """Narrow the bounds of a place in all sheets that have it."""
        narrower = {}
        for key in self.sheet_by_name:
            sheet = self.sheet_by_name[key]
            if name in sheet.chart:
                narrower[key] = Sheet(narrowed(sheet.chart, name, bounds), sheet.borders())
        if not narrower:
            raise UnknownPlace(name)
        self.earlier.append(self.sheet_by_name)
        self.sheet_by_name = {**self.sheet_by_name, **narrower}

    def undo(self):
        """Take the latest measurement back."""
        if not self.earlier:
            raise NothingToUndo()
        self.sheet_by_name = self.earlier.pop()

    def sheet(self, name):
        """Return a sheet as it is now."""
        if not is_place(name, self.sheet_by_name):
            raise UnknownSheet(name)
        return self.sheet_by_name[name]

    def whole(self):
        """Return the chart of all sheets glued together."""
        return glued(list(self.sheet_by_name.values())).chart

    def hollows(self):
        """Return the pairs (birth, death) of the sure hollows of the whole, in the order of Form.closed."""
        return pairs_of(sure_hollows(self.whole()))

    def least_depths(self):
        """Return the least depths of the whole."""
        return least_depths(self.whole())

    def sure_count(self, low, high):
        """Return the sure count of the whole."""
        return sure_count(self.whole(), low, high)

    def part_form(self, plan):
        """Return the form of the sheets of a plan, with those border places that also lie in a sheet outside of it."""
        if plan not in plans_in(self.plan):
            raise InvalidPlan(plan)
        inside = sheets_in(plan)
        part = glued([self.sheet_by_name[name] for name in inside])
        outside = [self.sheet_by_name[name] for name in self.sheet_by_name if name not in inside]
        return form(part.kept([name for name in part.borders() if any([name in sheet.chart for sheet in outside])]))
