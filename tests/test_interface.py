"""The names and the arguments that the interface lists, each defined in the file under which it is listed."""

import importlib
import inspect
import unittest

FUNCTIONS = {
    "bounds": ["is_height(value)", "is_name(value)"],
    "charttexts": ["chart_text(chart)", "read_chart(text)"],
    "lands": [
        "basin(land, name, level)", "basins(land, level)", "closed_count(land, low, high)", "hollows(land)",
        "depths(land)", "deeper(land, depth)",
    ],
    "passes": [
        "is_way(chart, value)", "pass_level(land, one, other)", "low_pass(chart, one, other)",
        "high_pass(chart, one, other)", "low_way(chart, one, other)", "high_way(chart, one, other)",
        "rim(chart, name, level)", "is_rim(chart, name, level, value)",
    ],
    "sure": [
        "sure_regions(chart, low, high)", "sure_count(chart, low, high)", "sure_hollows(chart)", "least_depths(chart)",
        "least_deeper(chart, depth)", "deep_regions(chart, depth)", "is_separate(chart, low, high, value)",
        "is_deep(chart, depth, value)",
    ],
    "calm": [
        "roots(chart)", "calm_land(chart)", "calm_way(chart, name)", "is_calm(chart, land)", "surplus(chart, land)",
    ],
    "water": [
        "water_level(land, name)", "water(land, name)", "total_water(land)", "dry_land(chart)", "least_water(chart, name)",
        "greatest_water(chart, name)", "wet_land(chart, name)", "least_total(chart)",
        "land_with_water(chart, name, depth)", "surely_wet(chart)", "never_wet(chart)", "escape(chart, name)",
    ],
    "drain": [
        "takers(land, name)", "may_take(chart, name)", "alone(chart, name)", "land_for(chart, name, outlet)",
        "why_not(chart, name, outlet)", "is_why_not(chart, name, outlet, value)",
    ],
    "hills": ["hills(land, *, outlets=())", "sure_hills(chart, *, outlets=())", "level_land(chart, *, outlets=())"],
    "forms": ["form(sheet)"],
    "parting": ["equal_everywhere(one, other)", "parting(one, other)"],
}

CLASSES = {
    "bounds": {"Bounds(low, high)": ["holds(other)", "exact(height)", "from_text(text)"]},
    "charts": {"Chart(places, ties=(), *, outlets=())": [
        "names()", "outlets()", "neighbours(name)", "ties()", "parts()", "with_bounds(name, bounds)",
        "turned(*, outlets=())", "narrower(other)",
    ]},
    "lands": {"Land(chart, heights)": ["heights()", "pinned()", "lowest(chart)", "highest(chart)", "clipped(chart, level)"]},
    "book": {"Book(chart)": ["read(name, bounds)", "undo()", "history()", "hollows()", "tried(action, *, keep=True)"]},
    "sheets": {"Sheet(chart, borders=())": ["borders()", "inner()", "glue(other)", "kept(names)"]},
    "office": {"Office(sheets, plan)": [
        "read(name, bounds)", "undo()", "sheet(name)", "whole()", "hollows()", "least_depths()", "sure_count(low, high)",
        "part_form(plan)",
    ]},
    "console": {"Console()": ["say(line)", "said(lines)"]},
}

# Forms are created by the package alone, so it is free how.
FORM_METHODS = [
    "borders()", "classes(level)", "closed()", "sure_count(low, high)", "glue(other)", "kept(names)", "short()",
]

SPECIAL = {
    ("bounds", "Bounds"): ["__contains__", "__eq__", "__and__", "__neg__", "__str__", "width"],
    ("charts", "Chart"): ["__getitem__", "__contains__", "__eq__", "__len__"],
    ("lands", "Land"): ["__call__", "__eq__"],
    ("sheets", "Sheet"): ["__eq__"],
    ("forms", "Form"): ["__eq__"],
}


def module(name):
    return importlib.import_module("surehollows." + name)


def called(name, function, bound=0):
    """The name with the arguments as the interface writes them, without the first ones that are bound."""
    parameters = list(inspect.signature(function).parameters.values())[bound:]
    return name + str(inspect.Signature(parameters))


class TestInterface(unittest.TestCase):

    def test_functions(self):
        for file, lines in FUNCTIONS.items():
            for line in lines:
                name = line.split("(")[0]
                function = getattr(module(file), name)
                self.assertEqual(called(name, function), line)
                self.assertEqual(function.__module__, "surehollows." + file)

    def test_classes_and_methods(self):
        for file, classes in CLASSES.items():
            for line, methods in classes.items():
                name = line.split("(")[0]
                made = getattr(module(file), name)
                self.assertEqual(called(name, made.__init__, 1), line)
                self.assertEqual(made.__module__, "surehollows." + file)
                self.check_methods(made, methods)

    def check_methods(self, made, methods):
        for method in methods:
            word = method.split("(")[0]
            bound = 0 if isinstance(made.__dict__[word], classmethod) else 1
            self.assertEqual(called(word, getattr(made, word), bound), method)

    def test_methods_of_forms(self):
        made = module("forms").Form
        self.assertEqual(made.__module__, "surehollows.forms")
        self.check_methods(made, FORM_METHODS)

    def test_special_methods_stand_in_the_class_itself(self):
        for (file, name), words in SPECIAL.items():
            for word in words:
                self.assertIn(word, getattr(module(file), name).__dict__)

    def test_numbers(self):
        self.assertEqual((module("bounds").MOST_HEIGHT, module("charts").MOST_PLACES), (10 ** 12, 60))
        self.assertEqual(module("sheets").MOST_BORDERS, 8)


if __name__ == "__main__":
    unittest.main()
