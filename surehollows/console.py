"""A console: a book that is kept by lines of words."""

from surehollows.book import Book
from surehollows.bounds import Bounds, ends_in, height_in, is_name
from surehollows.calm import calm_land
from surehollows.charts import Chart
from surehollows.charttexts import chart_text, read_chart
from surehollows.drain import alone, may_take
from surehollows.errors import Contradiction, InvalidLevels, InvalidLine, InvalidText, NothingToUndo, UnknownPlace
from surehollows.hills import sure_hills
from surehollows.sure import least_depths, sure_count
from surehollows.water import dry_land, greatest_water, least_water


def worded(value):
    """Return how a value is written that may be None."""
    return "none" if value is None else str(value)


def listed(texts, sign):
    """Return how texts are written one behind the other, with the sign between them."""
    return sign.join(texts) if texts else "-"


def listed_hollows(found):
    """Return how hollows or hills are written."""
    return listed([f"{name} {birth} {worded(death)}" for name, birth, death in found], "; ")


def listed_heights(land):
    """Return how the heights of a land are written."""
    return listed([f"{name} {land(name)}" for name in land.chart.names()], "; ")


def answer_undo(book):
    """Take the last reading back."""
    book.undo()
    return "undone"


def answer_show(book):
    """Write the present chart."""
    return chart_text(book.now).replace("\n", "; ") or "-"


def answer_hollows(book):
    """Write the sure hollows."""
    return listed_hollows(book.hollows())


def answer_hills(book):
    """Write the sure hills."""
    return listed_hollows(sure_hills(book.now))


def answer_depths(book):
    """Write the least depths."""
    return listed([worded(depth) for depth in least_depths(book.now)], " ")


def answer_calm(book):
    """Write the calm land."""
    return listed_heights(calm_land(book.now))


def answer_dry(book):
    """Write the dry land."""
    return listed_heights(dry_land(book.now))


def answer_water(book, name):
    """Write the least and the greatest water of a place."""
    least = least_water(book.now, name)
    return worded(None) if least is None else f"{least} {greatest_water(book.now, name)}"


def answer_takers(book, name):
    """Write the outlets that may take the water of a place."""
    return listed(may_take(book.now, name), " ")


def answer_alone(book, name):
    """Write the outlet that takes the water of a place alone."""
    return worded(alone(book.now, name))


def answer_read(book, name, text):
    """Narrow the bounds of a place; write what they are afterwards."""
    book.read(name, Bounds.from_text(text))
    return str(book.now[name])


def answer_count(book, low, high):
    """Write the sure count at two levels."""
    return str(sure_count(book.now, height_in(low), height_in(high)))


OF_ALL = {
    "undo": answer_undo,
    "show": answer_show,
    "hollows": answer_hollows,
    "hills": answer_hills,
    "depths": answer_depths,
    "calm": answer_calm,
    "dry": answer_dry,
}

OF_PLACE = {"water": answer_water, "takers": answer_takers, "alone": answer_alone}


def words_of(line):
    """Return the words of any value that is a line; raise InvalidLine for any other one."""
    if not isinstance(line, str):
        raise InvalidLine(line)
    words = line.split(" ")
    if "" in words:
        raise InvalidLine(line)
    return words


def answer(book, words, line):
    """Answer a line that does not begin a new book."""
    word = words[0]
    told = words[1:]
    if word in OF_ALL and not told:
        action = OF_ALL[word]
        return action(book)
    if word in OF_PLACE and len(told) == 1 and is_name(told[0]):
        action = OF_PLACE[word]
        return action(book, told[0])
    if word == "read" and len(told) == 2 and is_name(told[0]) and ends_in(told[1]) is not None:
        return answer_read(book, told[0], told[1])
    if word == "count" and len(told) == 2 and height_in(told[0]) is not None and height_in(told[1]) is not None:
        return answer_count(book, told[0], told[1])
    raise InvalidLine(line)


class Console:
    """A book, and the lines that are said about it."""

    def __init__(self):
        self.book = Book(Chart({}))

    def begin(self, text):
        """Begin a new book of the chart with this text."""
        chart = read_chart(text)
        self.book = Book(chart)
        return str(len(chart))

    def told(self, line):
        """Do what a line says and return the answer, or raise an error."""
        words = words_of(line)
        if words[0] == "chart":
            return self.begin(" ".join(words[1:]).replace("; ", "\n"))
        return answer(self.book, words, line)

    def say(self, line):
        """Do what a line says and return the answer, also for a line that is refused."""
        try:
            return self.told(line)
        except InvalidLine:
            return "! InvalidLine"
        except InvalidText:
            return "! InvalidText"
        except InvalidLevels:
            return "! InvalidLevels"
        except UnknownPlace:
            return "! UnknownPlace"
        except Contradiction:
            return "! Contradiction"
        except NothingToUndo:
            return "! NothingToUndo"

    def said(self, lines):
        """Say the lines one behind the other; return the answers."""
        return [self.say(line) for line in lines]
