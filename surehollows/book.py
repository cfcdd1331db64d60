"""Books of readings, which narrow a chart one by one."""

from surehollows.charts import check_chart, narrowed
from surehollows.errors import NothingToUndo
from surehollows.sure import sure_hollows


class Book:
    """A chart and the readings by which it was narrowed."""

    def __init__(self, chart):
        check_chart(chart)
        self.now = chart
        # Each reading with the chart before it. This list is never modified, so tried can put an old one back.
        self.readings = []

    def read(self, name, bounds):
        """Narrow the bounds of a place to the heights that also lie within these bounds."""
        chart = narrowed(self.now, name, bounds)
        self.readings = [*self.readings, (name, str(bounds), self.now)]
        self.now = chart

    def undo(self):
        """Take the last reading back."""
        if not self.readings:
            raise NothingToUndo()
        name, text, chart = self.readings[-1]
        self.readings = self.readings[:-1]
        self.now = chart

    def history(self):
        """Return the readings as tuples (name, text of bounds)."""
        return [(name, text) for name, text, chart in self.readings]

    def hollows(self):
        """Return the sure hollows of the present chart."""
        return sure_hollows(self.now)

    def tried(self, action, *, keep=True):
        """Call the action with this book; put the book back if the action fails or if nothing is to be kept."""
        chart, readings = self.now, self.readings
        try:
            result = action(self)
            if keep:
                chart, readings = self.now, self.readings
            return result
        finally:
            # This also catches the failures that no handler may name.
            self.now, self.readings = chart, readings
