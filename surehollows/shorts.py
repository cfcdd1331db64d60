"""Short sheets: sheets of few places with given border classes and closed hollows."""

from surehollows.bounds import MOST_HEIGHT, Bounds, fresh_name
from surehollows.charts import Chart
from surehollows.sheets import Sheet
from surehollows.stages import OUTLET, best_mark, is_born, meets


class Draft:
    """A sheet that is being made, and the closed hollows that it still lacks."""

    def __init__(self, bounds, pairs):
        self.places = dict(bounds)
        self.links = []
        self.drains = []
        # Tuples (level, mark, place) of the places that join at a level and belong to a class of this mark then.
        self.joints = []
        self.lacking = list(pairs)

    def add_place(self, bounds, tied):
        """Add an inner place that is tied to these places; return its name."""
        name = fresh_name(self.places)
        self.places[name] = bounds
        self.links.extend([(name, other) for other in tied])
        return name

    def add_joint(self, level, mark, tied):
        """Add a place that joins these places at the level, to a class of this mark; return its name."""
        # Of all high bounds the greatest one is the mark of no class, unless a border place has it, too.
        name = self.add_place(Bounds(level, level if mark in (level, OUTLET) else MOST_HEIGHT), tied)
        if mark == OUTLET:
            self.drains.append(name)
        self.joints.append((level, mark, name))
        return name

    def add_class(self, level, one, before):
        """Add what makes a class at the level of those that were there before."""
        names, mark = one
        inside = [other for other in before if meets(one, other)]
        older = [name for members, old in inside for name in members]
        tied = [members[0] for members, old in inside] + [name for name in names if name not in older]
        highs = [self.places[name].high for name in names if self.places[name].high <= level]
        given = best_mark([old for members, old in inside] + highs)
        if len(tied) == 1 and given == mark:
            return
        joint = self.add_joint(level, mark, tied)
        if is_born(mark) and mark != given and mark < level:
            # A place with a high bound below the level has been alone up to here: so it is one of the closed hollows.
            self.lacking.remove((mark, level))
            self.add_place(Bounds.exact(mark), [joint])

    def add_hollow(self, birth, death):
        """Add a closed hollow whose end is nobody else's concern."""
        if death is None:
            self.add_place(Bounds.exact(birth), [])
            return
        joints = [name for level, mark, name in self.joints if level == death and takes(mark, birth)]
        self.add_place(Bounds.exact(birth), [joints[0] if joints else self.add_joint(death, OUTLET, [])])


def takes(mark, birth):
    """Tell whether a class of this mark stays the same when it takes a hollow of this birth up."""
    return mark == OUTLET or (mark is not None and mark <= birth)


def short_sheet(bounds, stages, pairs):
    """Return a sheet with these bounds of border places, these stages and these closed hollows."""
    draft = Draft(bounds, pairs)
    before = []
    for level, classes in stages:
        for one in classes:
            draft.add_class(level, one, before)
        before = classes
    for birth, death in list(draft.lacking):
        draft.add_hollow(birth, death)
    return Sheet(Chart(draft.places, draft.links, outlets=draft.drains), list(bounds))
