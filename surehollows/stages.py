"""Border classes of sheets at all levels.

A class is a tuple (names, mark). Stages are tuples (level, classes) in ascending order of levels: these are the
classes from this level on, up to the next stage. Below the first stage there are none.
"""

from surehollows.charts import parts_of
from surehollows.floods import high_heights, low_heights
from surehollows.pairs import births_at, lost, sorted_pairs, turning_levels
from surehollows.regions import has_outlet, low_places

OUTLET = "outlet"


def is_born(mark):
    """Tell whether a mark is a height."""
    return mark is not None and mark != OUTLET


def best_mark(marks):
    """Return the mark of what is made of parts with these marks."""
    if OUTLET in marks:
        return OUTLET
    return min([mark for mark in marks if mark is not None], default=None)


def meets(one, other):
    """Tell whether two classes belong together: they have a place in common, or both have an outlet."""
    names, mark = one
    other_names, other_mark = other
    if mark == OUTLET and other_mark == OUTLET:
        return True
    return any([name in other_names for name in names])


def united(classes):
    """Return the class that these classes make together."""
    return (sorted({name for names, mark in classes for name in names}), best_mark([mark for names, mark in classes]))


def joined(classes):
    """Unite the classes that belong together; return all in ascending order of their first names."""
    found = []
    for one in classes:
        near = [other for other in found if meets(one, other)]
        found = [other for other in found if not meets(one, other)] + [united([one, *near])]
    return sorted(found)


def changes(stages):
    """Return the stages without those that change nothing."""
    found = []
    before = []
    for level, classes in stages:
        if classes != before:
            found.append((level, classes))
        before = classes
    return found


def classes_at(stages, level):
    """Return the classes at the level."""
    found = []
    for start, classes in stages:
        if start <= level:
            found = classes
    return found


def stage_levels(stages):
    """Return the levels at which the stages begin."""
    return [level for level, classes in stages]


def part_mark(chart, part, highs, level):
    """Return the mark of the border places of this part at the level."""
    if has_outlet(chart, part):
        return OUTLET
    return best_mark([highs[name] for name in part if highs[name] <= level])


def sheet_classes(sheet, lows, highs, level):
    """Return the border classes of a sheet at the level."""
    borders = sheet.borders()
    found = []
    for part in parts_of(sheet.chart, low_places(lows, level)):
        names = [name for name in part if name in borders]
        if names:
            found.append((names, part_mark(sheet.chart, part, highs, level)))
    return joined(found)


def stages_of(sheet):
    """Return the stages of a sheet."""
    lows = low_heights(sheet.chart)
    highs = high_heights(sheet.chart)
    levels = sorted(set(list(lows.values())) | set(list(highs.values())))
    return changes([(level, sheet_classes(sheet, lows, highs, level)) for level in levels])


def glued_stages(one, other):
    """Return the stages of two sheets that are glued together."""
    levels = sorted(set(stage_levels(one)) | set(stage_levels(other)))
    return changes([(level, joined(classes_at(one, level) + classes_at(other, level))) for level in levels])


def kept_classes(classes, names):
    """Return the classes with no other border places than these."""
    found = [([name for name in members if name in names], mark) for members, mark in classes]
    return sorted([(members, mark) for members, mark in found if members])


def kept_stages(stages, names):
    """Return the stages of the sheet in which only these border places are kept."""
    return changes([(level, kept_classes(classes, names)) for level, classes in stages])


def freed_births(classes, names):
    """Return the births of the hollows that live in classes none of whose border places is kept."""
    return [mark for members, mark in classes if is_born(mark) and not any([name in names for name in members])]


def kept_pairs(stages, pairs, names):
    """Return the closed hollows of the sheet in which only these border places are kept."""
    found = []
    before = []
    for level in sorted(set(stage_levels(stages)) | set(turning_levels(pairs))):
        births = births_at(pairs, level) + freed_births(classes_at(stages, level), names)
        found.extend([(birth, level) for birth in lost(before, births)])
        before = births
    return sorted_pairs(found + [(birth, None) for birth in before])
