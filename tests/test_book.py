"""Books of readings [93] to [95]."""

import random
import unittest

from surehollows.book import Book
from surehollows.bounds import Bounds
from surehollows.charts import Chart
from surehollows.errors import Contradiction, NotBounds, NotChart, NothingToUndo, UnknownPlace
from surehollows.sure import least_depths, sure_count, sure_hollows
from surehollows.water import greatest_water, least_water
from tests.helper import (
    SomeObject, before_or_equal, bounds, check_fresh, level_pairs, line_of, look, no_bounds, no_charts, no_places, raised,
    refused, sample, some_charts
)


def state(book):
    """All that a book tells."""
    return (look(book.now), book.history(), book.hollows())


def wide():
    """A new book of a line of three places."""
    return Book(line_of("0..9", "2..9", "1..9"))


def fail(error):
    raise error


class TestReading(unittest.TestCase):

    def test_no_chart(self):
        refused(self, NotChart, Book, no_charts())
        self.assertEqual(state(Book(chart=sample())), state(Book(sample())))

    def test_a_new_book(self):
        for chart in [Chart({}), sample()]:
            book = Book(chart)
            self.assertIs(book.now, chart)
            self.assertEqual((book.history(), book.hollows()), ([], sure_hollows(chart)))

    def test_bounds_of_all_kinds(self):
        for text, after in [
            ("3..5", "3..5"), ("2..9", "2..9"), ("0..20", "2..9"), ("4", "4"), ("-5..2", "2"), ("9..12", "9"),
            ("0..3", "2..3"), ("7..12", "7..9"),
        ]:
            book = wide()
            self.assertIs(book.read("b", bounds(text)), None)
            self.assertEqual(look(book.now), look(wide().now.with_bounds("b", bounds(after))))
            self.assertEqual(book.history(), [("b", text)])

    def test_one_place_alone_is_narrowed(self):
        chart = sample()
        before = look(chart)
        for name in chart.names():
            book = Book(chart)
            book.read(bounds=Bounds.exact(chart[name].high), name=name)
            self.assertEqual(look(book.now), look(chart.with_bounds(name, Bounds.exact(chart[name].high))))
        self.assertEqual(look(chart), before)

    def test_history_and_undo_step_by_step(self):
        book = wide()
        readings = [("c", "0..1"), ("b", "4..20"), ("b", "-3..7"), ("b", "4..7"), ("a", "0"), ("a", "0..9")]
        told = [(book.now, look(book.now), [])]
        for name, text in readings:
            book.read(name, bounds(text))
            told.append((book.now, look(book.now), book.history()))
        self.assertEqual(book.history(), readings)
        self.assertEqual(str(book.now["b"]), "4..7")
        for chart, seen, history in told[::-1]:
            self.assertEqual((look(book.now), book.history()), (seen, history))
            self.assertEqual(look(chart), seen)
            self.assertEqual(book.hollows(), sure_hollows(chart))
            if history:
                self.assertIs(book.undo(), None)
        self.assertEqual(vars(raised(self, NothingToUndo, book.undo)), {})
        self.assertEqual(state(book), state(wide()))

    def test_reading_after_undo(self):
        book = wide()
        book.read("a", bounds("3"))
        book.undo()
        book.read("a", bounds("5..7"))
        self.assertEqual((book.history(), str(book.now["a"])), ([("a", "5..7")], "5..7"))

    def test_books_of_one_chart_are_apart(self):
        chart = sample()
        one, other = Book(chart), Book(chart)
        one.read("d", bounds("0..1"))
        third = Book(one.now)
        third.read("d", bounds("1"))
        self.assertEqual([len(book.history()) for book in (one, other, third)], [1, 0, 1])
        self.assertEqual([str(book.now["d"]) for book in (one, other, third)], ["0..1", "-4..7", "1"])

    def test_errors_in_order(self):
        book = wide()
        book.read("a", bounds("3..5"))
        before = state(book)
        refused(self, UnknownPlace, lambda value: book.read(value, bounds("3")), no_places())
        refused(self, UnknownPlace, lambda value: book.read(value, None), no_places())
        refused(self, NotBounds, lambda value: book.read("a", value), [*no_bounds(), book])
        for text in ["2", "-3..2", "6", "6..9"]:
            given = bounds(text)
            error = raised(self, Contradiction, book.read, "a", given)
            self.assertEqual(str(error.one), "3..5")
            self.assertIs(error.other, given)
        self.assertEqual(state(book), before)
        refused(self, UnknownPlace, lambda value: Book(Chart({})).read(value, bounds("3")), ["a", None, []])

    def test_lists_that_are_changed_afterwards(self):
        book = wide()
        book.read("a", bounds("3..5"))
        check_fresh(self, book.history)
        check_fresh(self, book.hollows)
        self.assertEqual(book.history(), [("a", "3..5")])


class TestTried(unittest.TestCase):

    def test_what_the_action_returns(self):
        for value in [None, True, 0, "a", [1], ("a",), {}, bounds("3"), sample(), SomeObject()]:
            book = wide()
            self.assertIs(book.tried(lambda it: value), value)
            self.assertIs(book.tried(lambda it: value, keep=True), value)
            self.assertIs(book.tried(keep=False, action=lambda it: value), value)

    def test_the_book_itself_is_passed(self):
        book = wide()
        for named in [{}, {"keep": True}, {"keep": False}]:
            self.assertIs(book.tried(lambda it: it, **named), book)

    def test_keeping(self):
        for named, kept in [({}, True), ({"keep": True}, True), ({"keep": False}, False)]:
            book = wide()
            book.read("a", bounds("0..8"))
            before = state(book)
            self.assertIs(book.tried(lambda it: it.read("a", bounds("3..5")), **named), None)
            if kept:
                self.assertEqual((str(book.now["a"]), book.history()), ("3..5", [("a", "0..8"), ("a", "3..5")]))
                book.undo()
            self.assertEqual(state(book), before)
            self.assertIs(book.tried(lambda it: it.undo(), **named), None)
            self.assertEqual(state(book), state(wide()) if kept else before)

    def test_keep_by_name_alone(self):
        with self.assertRaises(TypeError):
            wide().tried(lambda it: None, False)

    def test_the_action_sees_the_book_as_it_is(self):
        def action(book):
            book.read("a", bounds("3..5"))
            return (str(book.now["a"]), book.history(), book.hollows())
        self.assertEqual(wide().tried(action, keep=False), ("3..5", [("a", "3..5")], [("a", 5, None)]))

    def test_failing_actions(self):
        failures = [
            ValueError("x"), KeyError("x"), TypeError(), ZeroDivisionError(), RuntimeError("x"), OSError(),
            StopIteration(), KeyboardInterrupt(), SystemExit(), NothingToUndo(), UnknownPlace("a"), RecursionError(),
        ]
        for named in [{}, {"keep": True}, {"keep": False}]:
            for failure in failures:
                book = wide()
                book.read("a", bounds("0..8"))
                chart, before = book.now, state(book)

                def action(it):
                    it.undo()
                    it.read("b", bounds("4"))
                    it.read("c", bounds("4"))
                    raise failure

                with self.assertRaises(type(failure)) as caught:
                    book.tried(action, **named)
                self.assertIs(caught.exception, failure)
                self.assertIs(book.now, chart)
                self.assertEqual(state(book), before)
                book.undo()
                self.assertEqual(state(book), state(wide()))

    def test_errors_of_the_book_leave_the_call(self):
        def undo_all(it):
            it.read("b", bounds("4"))
            while True:
                it.undo()
        book = wide()
        book.read("a", bounds("0..8"))
        before = state(book)
        raised(self, NothingToUndo, book.tried, undo_all)
        self.assertEqual(state(book), before)
        given = bounds("77")
        error = raised(self, Contradiction, book.tried, lambda it: [it.undo(), it.read("a", given)], keep=False)
        self.assertEqual((str(error.one), error.other is given), ("0..9", True))
        self.assertEqual(state(book), before)

    def test_an_action_that_catches(self):
        def action(it):
            it.read("a", bounds("4..6"))
            try:
                it.tried(lambda inner: [inner.read("a", bounds("5")), inner.read("a", bounds("4"))])
            except Contradiction:
                return str(it.now["a"])
        book = wide()
        self.assertEqual(book.tried(action), "4..6")
        self.assertEqual(book.history(), [("a", "4..6")])

    def test_nested_calls(self):
        def nest(depth, keep):
            def action(it):
                it.read("a", Bounds(10 - depth, 10))
                if depth > 1:
                    it.tried(nest(depth - 1, True), keep=True)
                    it.tried(nest(1, True), keep=False)
                return len(it.history())
            return action

        book = Book(line_of("0..10"))
        self.assertEqual(book.tried(nest(10, True)), 10)
        self.assertEqual(book.history(), [("a", f"{low}..10" if low < 10 else "10") for low in range(10)])
        book = Book(line_of("0..10"))
        self.assertEqual(book.tried(nest(10, True), keep=False), 10)
        self.assertEqual((book.history(), str(book.now["a"])), ([], "0..10"))

    def test_an_outer_failure_takes_back_what_was_kept(self):
        def outer(it):
            it.tried(lambda inner: inner.read("a", bounds("3")), keep=True)
            self.assertEqual(it.history(), [("a", "3")])
            fail(KeyError("x"))
        book = wide()
        with self.assertRaises(KeyError):
            book.tried(outer)
        self.assertEqual(state(book), state(wide()))

    def test_an_inner_failure_alone(self):
        def outer(it):
            it.read("a", bounds("3..4"))
            with self.assertRaises(KeyError):
                it.tried(lambda inner: [inner.undo(), inner.read("b", bounds("5")), fail(KeyError("x"))])
            it.read("c", bounds("7"))
        book = wide()
        book.tried(outer)
        self.assertEqual(book.history(), [("a", "3..4"), ("c", "7")])


class TestNarrowing(unittest.TestCase):

    def counts(self, chart):
        return [sure_count(chart, low, high) for low, high in level_pairs()]

    def check_reading(self, before, after):
        self.assertIs(after.narrower(before), True)
        self.assertTrue(all(one <= other for one, other in zip(self.counts(before), self.counts(after))))
        self.assertTrue(before_or_equal(least_depths(before), least_depths(after)))
        for name in before.names():
            least, greatest = least_water(before, name), greatest_water(before, name)
            if least is None:
                self.assertEqual((least_water(after, name), greatest_water(after, name)), (None, None))
            else:
                self.assertGreaterEqual(least_water(after, name), least)
                self.assertLessEqual(greatest_water(after, name), greatest)

    def test_readings_never_take_back_what_is_sure(self):
        chance = random.Random(97)
        for chart in some_charts(40, 97, most=7, widest=4):
            book = Book(chart)
            for turn in range(4 if len(chart) else 0):
                before, name = book.now, chance.choice(chart.names())
                height = chance.randint(before[name].low, before[name].high)
                book.read(name, Bounds(chance.randint(height - 2, height), chance.randint(height, height + 2)))
                self.check_reading(before, book.now)


if __name__ == "__main__":
    unittest.main()
