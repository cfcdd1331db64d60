"""The main promises [11] (a) and (b), over small charts and lands of them."""

import unittest

from surehollows.bounds import Bounds
from surehollows.calm import calm_land
from surehollows.charts import Chart
from surehollows.lands import closed_count, deeper, depths
from surehollows.sure import least_depths, least_deeper, sure_count
from surehollows.water import dry_land, water
from tests.helper import before_or_equal, lands_of, level_pairs, long_line, some_charts, some_lands


def tried():
    """Small charts, each with lands of it."""
    for chart in some_charts(50, 40, most=4, top=2, widest=2):
        yield chart, lands_of(chart)
    for seed, chart in enumerate(some_charts(120, 41, most=7)):
        yield chart, some_lands(chart, 8, seed)


class TestPromises(unittest.TestCase):

    def test_no_closed_count_is_below_the_sure_count(self):
        for chart, lands in tried():
            sure = [sure_count(chart, low, high) for low, high in level_pairs()]
            for land in lands[:20]:
                counts = [closed_count(land, low, high) for low, high in level_pairs()]
                self.assertTrue(all(one <= other for one, other in zip(sure, counts)))

    def test_the_calm_land_has_just_the_sure_count(self):
        for chart, lands in tried():
            land = calm_land(chart)
            for low, high in level_pairs():
                self.assertEqual(closed_count(land, low, high), sure_count(chart, low, high))

    def test_the_depths_of_the_calm_land_are_the_least(self):
        for chart, lands in tried():
            land = calm_land(chart)
            self.assertEqual(depths(land), least_depths(chart))
            for other in lands:
                self.assertTrue(before_or_equal(depths(land), depths(other)))

    def test_no_land_has_fewer_hollows_that_are_deeper(self):
        for chart, lands in tried():
            land = calm_land(chart)
            for depth in range(6):
                least = deeper(land, depth)
                self.assertEqual(least, least_deeper(chart, depth))
                self.assertTrue(all(deeper(other, depth) >= least for other in lands))

    def test_the_least_water_stands_in_the_dry_land(self):
        for chart, lands in tried():
            dry = dry_land(chart)
            for name in chart.names():
                least = water(dry, name)
                for land in lands:
                    found = water(land, name)
                    self.assertTrue(found is None if least is None else found >= least)

    def test_sixty_places(self):
        chart = wide_line()
        land, dry = calm_land(chart), dry_land(chart)
        self.assertEqual(depths(land), least_depths(chart))
        for other in some_lands(chart, 4, 42):
            self.assertTrue(before_or_equal(depths(land), depths(other)))
            self.assertTrue(all(water(other, name) >= water(dry, name) for name in chart.names()))


def wide_line():
    """A line of sixty places with wide bounds and two outlets."""
    chart, names = long_line()
    places = {name: Bounds(chart[name].low - 7 * (k % 5), chart[name].low + 100 * (k % 7)) for k, name in enumerate(names)}
    return Chart(places, chart.ties(), outlets=[names[20], names[33]])


if __name__ == "__main__":
    unittest.main()
