"""Whether two sheets give the same in every surrounding, and a surrounding in which they do not.

Such a surrounding is found as a trial: a tuple (names, mark, low, high). Its company ties these border places to each
other, and to a place whose bounds are the mark unless it is None; all other border places are outlets of the company.
"""

from surehollows.bounds import Bounds, fresh_name
from surehollows.charts import Chart
from surehollows.errors import Mismatch
from surehollows.forms import form
from surehollows.pairs import surplus_levels
from surehollows.sheets import Sheet, border_names_of, check_sheet
from surehollows.stages import OUTLET, classes_at, is_born, joined, stage_levels


def check_alike(one, other):
    """Raise the error that two sheets call for which do not have the same border places."""
    check_sheet(one)
    check_sheet(other)
    for name in border_names_of([one, other]):
        if name not in one.borders() or name not in other.borders() or one.chart[name] != other.chart[name]:
            raise Mismatch(name)


def equal_everywhere(one, other):
    """Tell whether two sheets with the same border places have the same sure counts in every surrounding."""
    check_alike(one, other)
    return form(one) == form(other)


def parting(one, other):
    """Return a tuple (company, low, high) of a sheet and levels that parts the two sheets, or None."""
    check_alike(one, other)
    left = form(one)
    right = form(other)
    if left == right:
        return None
    names, mark, low, high = closed_trial(left, right) or class_trial(left, right)
    taken = one.chart.names() + other.chart.names()
    return (company_of(left.borders(), taken, names, mark), low, high)


def closed_trial(left, right):
    """Return a trial that parts two forms with unlike closed hollows, or None."""
    levels = surplus_levels(left.closed(), right.closed()) or surplus_levels(right.closed(), left.closed())
    if levels is None:
        return None
    # Where all border places are outlets, nothing but the closed hollows counts.
    low, high = levels
    return ([], None, low, high)


def class_trial(left, right):
    """Return a trial that parts two forms with equal closed hollows and unlike classes.

    There is always one: if the places of a class without outlet are tied, and have in the other form an outlet or a
    class that leads to other places, the class counts in the one form alone. If there is no such class, the forms
    have the same classes, and one of them counts at the lesser one of its two marks in one form alone.
    """
    high = unlike_level(left.stages, right.stages)
    classes = left.classes(high)
    others = right.classes(high)
    found = trials(classes, high) + trials(others, high)
    return [trial for trial in found if count_joined(classes, trial) != count_joined(others, trial)][0]


def unlike_level(stages, others):
    """Return the least level at which the classes of unlike stages are unlike."""
    levels = sorted(set(stage_levels(stages)) | set(stage_levels(others)))
    return min([level for level in levels if classes_at(stages, level) != classes_at(others, level)])


def trials(classes, high):
    """Return the trials for each of these classes at the level."""
    tied = [(names, high, high, high) for names, mark in classes if mark != OUTLET]
    return tied + [(names, None, mark, high) for names, mark in classes if is_born(mark)]


def count_joined(classes, trial):
    """Return how many of these classes still count when they are joined with those of the trial's company."""
    names, mark, low, high = trial
    members = [name for group, own in classes for name in group]
    company = [(names, mark)] + [([name], OUTLET) for name in members if name not in names]
    return len([own for group, own in joined(classes + company) if is_born(own) and own <= low])


def company_of(bounds, taken, names, mark):
    """Return the company of a trial; the names of its inner places are not among those that are taken."""
    places = dict(bounds)
    ties = list(zip(names, names[1:]))
    if mark is not None:
        inner = fresh_name(taken)
        places[inner] = Bounds.exact(mark)
        ties.append((names[0], inner))
    outlets = [name for name in bounds if name not in names]
    return Sheet(Chart(places, ties, outlets=outlets), list(bounds))
