"""Forms: what a sheet gives in every surrounding."""

from surehollows.bounds import check_height, check_levels
from surehollows.charts import Chart, places_of
from surehollows.errors import Mismatch, NotForm
from surehollows.pairs import count_pairs, pairs_of, sorted_pairs
from surehollows.sheets import MOST_BORDERS, check_kept, check_most, check_sheet
from surehollows.shorts import short_sheet
from surehollows.stages import classes_at, glued_stages, is_born, kept_pairs, kept_stages, stages_of
from surehollows.sure import sure_hollows


def form(sheet):
    """Return the form of a sheet."""
    check_sheet(sheet)
    borders = sheet.borders()
    places = places_of(sheet.chart)
    drained = Chart(places, sheet.chart.ties(), outlets=[*sheet.chart.outlets(), *borders])
    return Form({name: places[name] for name in borders}, stages_of(sheet), pairs_of(sure_hollows(drained)))


class Form:
    """The border places of a sheet, their classes at all levels, and the closed hollows; it never changes."""

    def __init__(self, bounds, stages, pairs):
        self.border_bounds = {name: bounds[name] for name in sorted(bounds)}
        self.stages = stages
        self.closed_pairs = pairs

    def borders(self):
        """Return a dict from the border places, in ascending order, to their bounds."""
        return dict(self.border_bounds)

    def classes(self, level):
        """Return the border classes at the level as tuples (names, mark) in ascending order of their first names."""
        check_height(level)
        return [(list(names), mark) for names, mark in classes_at(self.stages, level)]

    def closed(self):
        """Return the closed hollows as tuples (birth, death) in ascending order, the death None last."""
        return list(self.closed_pairs)

    def sure_count(self, low, high):
        """Return the sure count of the sheet's chart."""
        check_levels(low, high)
        marks = [mark for names, mark in self.classes(high) if is_born(mark) and mark <= low]
        return len(marks) + count_pairs(self.closed_pairs, low, high)

    def glue(self, other):
        """Return the form of two sheets of these forms that are glued together."""
        if not isinstance(other, Form):
            raise NotForm(other)
        bounds = other.borders()
        for name in self.border_bounds:
            if name in bounds and bounds[name] != self.border_bounds[name]:
                raise Mismatch(name)
        bounds.update(self.border_bounds)
        check_most(bounds, MOST_BORDERS)
        # The border places part the inner places of the two sheets: so no closed hollow meets one of the other sheet.
        pairs = sorted_pairs(self.closed_pairs + other.closed_pairs)
        return Form(bounds, glued_stages(self.stages, other.stages), pairs)

    def kept(self, names):
        """Return the form of the sheet in which only these places are still border places."""
        check_kept(names, self.border_bounds)
        bounds = {name: self.border_bounds[name] for name in self.border_bounds if name in names}
        return Form(bounds, kept_stages(self.stages, bounds), kept_pairs(self.stages, self.closed_pairs, bounds))

    def short(self):
        """Return a sheet of few places with this form."""
        return short_sheet(self.border_bounds, self.stages, self.closed_pairs)

    def __eq__(self, other):
        if not isinstance(other, Form) or self.border_bounds != other.border_bounds:
            return False
        return self.stages == other.stages and self.closed_pairs == other.closed_pairs
