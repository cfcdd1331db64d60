"""Heights, names, and the bounds between which a height is known."""

from surehollows.errors import Contradiction, InvalidBounds, InvalidDepth, InvalidHeight, InvalidLevels, InvalidText

MOST_HEIGHT = 10 ** 12
# MOST_HEIGHT has so many digits. Python refuses to convert very long texts, so they are turned away before.
MOST_DIGITS = 13
MOST_LETTERS = 8
LETTERS = "abcdefghijklmnopqrstuvwxyz"
DIGITS = "0123456789"


def is_whole(value):
    """Tell whether any value is an integer; True and False are none."""
    return isinstance(value, int) and not isinstance(value, bool)


def is_height(value):
    """Tell whether any value is a height."""
    return is_whole(value) and -MOST_HEIGHT <= value <= MOST_HEIGHT


def is_name(value):
    """Tell whether any value is a name."""
    if not isinstance(value, str) or not 1 <= len(value) <= MOST_LETTERS:
        return False
    return all([letter in LETTERS for letter in value])


def name_at(index):
    """Return the name with this index among all names: a to z, then aa, ab and so on."""
    letters = ""
    while index >= 0:
        letters = LETTERS[index % len(LETTERS)] + letters
        index = index // len(LETTERS) - 1
    return letters


def fresh_name(taken):
    """Return the first name that is none of these."""
    index = 0
    while name_at(index) in taken:
        index += 1
    return name_at(index)


def check_height(value):
    """Raise InvalidHeight unless the value is a height."""
    if not is_height(value):
        raise InvalidHeight(value)


def check_levels(low, high):
    """Raise the error that these two levels call for."""
    check_height(low)
    check_height(high)
    if low > high:
        raise InvalidLevels(low, high)


def check_depth(value):
    """Raise InvalidDepth unless the value is an integer that a depth may be compared with."""
    if not is_whole(value) or not 0 <= value <= 2 * MOST_HEIGHT:
        raise InvalidDepth(value)


def height_in(word):
    """Return the height that the word writes, or None if it writes none."""
    digits = word.removeprefix("-")
    if not 1 <= len(digits) <= MOST_DIGITS or not all([digit in DIGITS for digit in digits]):
        return None
    height = int(word)
    # Leading zeros and -0 are digits, too, but no text of bounds has them.
    if str(height) != word or not is_height(height):
        return None
    return height


def ends_in(text):
    """Return the low and the high bound of a text of bounds, or None for any other value."""
    if not isinstance(text, str):
        return None
    ends = [height_in(word) for word in text.split("..")]
    if len(ends) > 2 or None in ends:
        return None
    if len(ends) == 1:
        return ends[0], ends[0]
    low, high = ends
    return (low, high) if low < high else None


class Bounds:
    """A low and a high bound; they never change."""

    def __init__(self, low, high):
        check_height(low)
        check_height(high)
        if low > high:
            raise InvalidBounds(low, high)
        self.low = low
        self.high = high

    @classmethod
    def exact(cls, height):
        """Return the bounds between which only this height lies."""
        return cls(height, height)

    @classmethod
    def from_text(cls, text):
        """Return the bounds with this text."""
        ends = ends_in(text)
        if ends is None:
            raise InvalidText(text)
        low, high = ends
        return cls(low, high)

    @property
    def width(self):
        """How far the high bound is above the low bound."""
        return self.high - self.low

    def holds(self, other):
        """Tell whether all heights within other lie within these bounds."""
        return self.low <= other.low and other.high <= self.high

    def __contains__(self, value):
        return is_height(value) and self.low <= value <= self.high

    def __eq__(self, other):
        return isinstance(other, Bounds) and self.low == other.low and self.high == other.high

    def __and__(self, other):
        low = max(self.low, other.low)
        high = min(self.high, other.high)
        if low > high:
            raise Contradiction(self, other)
        return Bounds(low, high)

    def __neg__(self):
        return Bounds(-self.high, -self.low)

    def __str__(self):
        if self.low == self.high:
            return str(self.low)
        return f"{self.low}..{self.high}"
