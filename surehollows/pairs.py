"""Births and deaths of hollows as pairs, without their places."""


def pair_order(pair):
    """Return what orders pairs by birth and death, the death None last."""
    birth, death = pair
    # Where both deaths are None they are equal, so neither of them has to be the lesser one.
    return (birth, death is None, death)


def sorted_pairs(pairs):
    """Return the pairs in ascending order."""
    return sorted(pairs, key=pair_order)


def pairs_of(found):
    """Return the pairs of these hollows in ascending order."""
    return sorted_pairs([(birth, death) for name, birth, death in found])


def births_at(pairs, level):
    """Return the births of the pairs that are born and live at the level, in ascending order."""
    return sorted([birth for birth, death in pairs if birth <= level and (death is None or death > level)])


def count_pairs(pairs, low, high):
    """Return how many of the pairs are born by low and live beyond high."""
    return len([birth for birth in births_at(pairs, high) if birth <= low])


def turning_levels(pairs):
    """Return the levels at which one of the pairs is born or dies."""
    return [birth for birth, death in pairs] + [death for birth, death in pairs if death is not None]


def first_surplus(more, fewer):
    """Return the least number up to which there are more of the one sorted numbers than of the others, or None."""
    for index, number in enumerate(more):
        if index >= len(fewer) or number < fewer[index]:
            return number
    return None


def surplus_levels(more, fewer):
    """Return the levels (low, high) with the least high, then low, at which more of the one pairs count, or None."""
    # Between these levels both counts stay as they are.
    for high in sorted(turning_levels(more) + turning_levels(fewer)):
        low = first_surplus(births_at(more, high), births_at(fewer, high))
        if low is not None:
            return (low, high)
    return None


def lost(before, after):
    """Return the numbers that occur before and not after, as often as they are missing."""
    rest = list(after)
    gone = []
    for number in before:
        if number in rest:
            rest.remove(number)
        else:
            gone.append(number)
    return gone
