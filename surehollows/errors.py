"""The errors of the package, each directly below SurveyError.

The messages name no values: an error accepts any value, and not every value
can be written out. The values themselves are in the attributes.
"""


class SurveyError(ValueError):
    """What all errors of this package have in common."""

    def __init__(self, message):
        ValueError.__init__(self, message)


class InvalidHeight(SurveyError):
    """A value that is no height."""

    def __init__(self, value):
        SurveyError.__init__(self, "this is no height")
        self.value = value


class InvalidName(SurveyError):
    """A value that is no name."""

    def __init__(self, value):
        SurveyError.__init__(self, "this is no name")
        self.value = value


class InvalidBounds(SurveyError):
    """Two heights of which the low one is the greater one."""

    def __init__(self, low, high):
        SurveyError.__init__(self, "the low bound is above the high bound")
        self.low = low
        self.high = high


class InvalidPlaces(SurveyError):
    """A value that is no dict from names to bounds."""

    def __init__(self, value):
        SurveyError.__init__(self, "these are no places with bounds")
        self.value = value


class InvalidTie(SurveyError):
    """A value that is no tie of two places, or no list of ties."""

    def __init__(self, value):
        SurveyError.__init__(self, "this is no tie")
        self.value = value


class InvalidText(SurveyError):
    """A value that is not the text of anything, or the index of such a line."""

    def __init__(self, value):
        SurveyError.__init__(self, "this is no such text")
        self.value = value


class InvalidHeights(SurveyError):
    """A value that does not give each place of a chart a height."""

    def __init__(self, value):
        SurveyError.__init__(self, "these are no heights of the places")
        self.value = value


class InvalidLevels(SurveyError):
    """Two levels of which the low one is the greater one."""

    def __init__(self, low, high):
        SurveyError.__init__(self, "the low level is above the high level")
        self.low = low
        self.high = high


class InvalidDepth(SurveyError):
    """A value that is no depth, or none that can be had."""

    def __init__(self, value):
        SurveyError.__init__(self, "this is no such depth")
        self.value = value


class InvalidPlan(SurveyError):
    """A value that is no plan of the sheets."""

    def __init__(self, value):
        SurveyError.__init__(self, "this is no such plan")
        self.value = value


class InvalidLine(SurveyError):
    """A line that a console does not understand."""

    def __init__(self, line):
        SurveyError.__init__(self, "this is no such line")
        self.line = line


class UnknownPlace(SurveyError):
    """A value that is no place of the chart, or no such list of places."""

    def __init__(self, name):
        SurveyError.__init__(self, "there is no such place")
        self.name = name


class UnknownSheet(SurveyError):
    """A value that is no name of a sheet."""

    def __init__(self, name):
        SurveyError.__init__(self, "there is no such sheet")
        self.name = name


class DuplicateName(SurveyError):
    """A place of several sheets that is not a border place of all of them."""

    def __init__(self, name):
        SurveyError.__init__(self, "this place is not a border place of all its sheets")
        self.name = name


class TooLarge(SurveyError):
    """More places or border places than there may be."""

    def __init__(self, count):
        SurveyError.__init__(self, "there are too many places")
        self.count = count


class OutOfBounds(SurveyError):
    """A value for a place that is no height within its bounds."""

    def __init__(self, name, height):
        SurveyError.__init__(self, "this is no height within the bounds of the place")
        self.name = name
        self.height = height


class Contradiction(SurveyError):
    """Two bounds that have no height in common."""

    def __init__(self, one, other):
        SurveyError.__init__(self, "no height lies within both bounds")
        self.one = one
        self.other = other


class Mismatch(SurveyError):
    """A border place that is not the same in two sheets."""

    def __init__(self, name):
        SurveyError.__init__(self, "this border place is not the same in both")
        self.name = name


class NotBorder(SurveyError):
    """A value that is no border place, or no list of border places."""

    def __init__(self, name):
        SurveyError.__init__(self, "this is no border place")
        self.name = name


class NotBounds(SurveyError):
    """A value that is no Bounds."""

    def __init__(self, value):
        SurveyError.__init__(self, "these are no Bounds")
        self.value = value


class NotChart(SurveyError):
    """A value that is no Chart."""

    def __init__(self, value):
        SurveyError.__init__(self, "this is no Chart")
        self.value = value


class NotLand(SurveyError):
    """A value that is no Land of the chart."""

    def __init__(self, value):
        SurveyError.__init__(self, "this is no such Land")
        self.value = value


class NotSheet(SurveyError):
    """A value that is no Sheet."""

    def __init__(self, value):
        SurveyError.__init__(self, "this is no Sheet")
        self.value = value


class NotForm(SurveyError):
    """A value that is no Form."""

    def __init__(self, value):
        SurveyError.__init__(self, "this is no Form")
        self.value = value


class NoOutlet(SurveyError):
    """A place from which no way leads to an outlet."""

    def __init__(self, name):
        SurveyError.__init__(self, "no way leads from this place to an outlet")
        self.name = name


class NothingToUndo(SurveyError):
    """There is no reading that could be taken back."""

    def __init__(self):
        SurveyError.__init__(self, "there is nothing to undo")
