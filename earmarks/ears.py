"""Ears: the six depths, their number, and how they are written."""

from earmarks.errors import BadEar

PLACES = ("lt", "lf", "lh", "rt", "rf", "rh")
GREATEST_DEPTH = 9
GREATEST_NUMBER = 999999
WEIGHTS = (100000, 10000, 1000, 100, 10, 1)
BARE_EAR = (0, 0, 0, 0, 0, 0)
BARE_WORD = "none"
FIGURES = "123456789"


def is_ear(parts):
    """Tell whether a tuple of whole numbers is an ear."""
    return len(parts) == len(PLACES) and all([0 <= depth <= GREATEST_DEPTH for depth in parts])


def number(ear):
    """Tell the number of an ear."""
    return sum([depth * weight for depth, weight in zip(ear, WEIGHTS)])


def by_number(told):
    """Tell the ear of a number; BadEar where no ear has it."""
    if not 0 <= told <= GREATEST_NUMBER:
        raise BadEar()
    return tuple([told // weight % 10 for weight in WEIGHTS])


def shown(ear):
    """Tell how an ear is written."""
    words = [f"{place}{depth}" for place, depth in zip(PLACES, ear) if depth > 0]
    return " ".join(words) if words else BARE_WORD


def read_ear(text):
    """Tell the ear that a text writes; BadEar where it writes none."""
    if text == BARE_WORD:
        return BARE_EAR
    depths = list(BARE_EAR)
    last = -1
    # Split by the very blank: a blank more leaves an empty word, which is refused.
    for word in text.split(" "):
        place, depth = read_cut(word)
        if place <= last:
            raise BadEar()
        depths[place] = depth
        last = place
    return tuple(depths)


def read_cut(word):
    """Tell the place and the depth that a word writes; BadEar where it writes none."""
    if len(word) != 3 or word[:2] not in PLACES or word[2] not in FIGURES:
        raise BadEar()
    return PLACES.index(word[:2]), int(word[2])
