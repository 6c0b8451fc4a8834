"""Deeds in words: which tuples tell a deed, and how a deed is written and read."""

from earmarks.ears import PLACES, is_ear, read_ear, shown
from earmarks.errors import BadDeed, BadEar, BadLine

# For each word the kinds of the parts behind it. An ear stands last: it has blanks of its own.
SHAPES = {
    "owner": (),
    "ground": ("number",),
    "enrol": ("number", "number", "ear"),
    "leave": ("number", "number"),
    "bring": ("number", "number", "ear"),
    "bear": ("number",),
    "cut": ("number",),
    "tear": ("number", "place"),
    "sell": ("number", "number"),
    "move": ("number", "number"),
    "die": ("number",),
    "unite": ("number", "number"),
    "part": ("number",),
    "pass": ("number", "number"),
    "heir": ("number", "number", "number"),
}
GREATEST_PART = 999999999
MOST_FIGURES = 9
FIGURES = "0123456789"


def fits(deed):
    """Tell whether a tuple tells a deed."""
    if len(deed) == 0 or deed[0] not in SHAPES:
        return False
    shape = SHAPES[deed[0]]
    parts = deed[1:]
    return len(parts) == len(shape) and all([part_fits(kind, part) for kind, part in zip(shape, parts)])


def part_fits(kind, part):
    """Tell whether a part of a deed is of that kind and within its bounds."""
    if kind == "ear":
        return isinstance(part, tuple) and is_ear(part)
    greatest = len(PLACES) - 1 if kind == "place" else GREATEST_PART
    return isinstance(part, int) and 0 <= part <= greatest


def written(deed):
    """Tell the line that writes a deed; BadDeed where the tuple tells none."""
    if not fits(deed):
        raise BadDeed()
    word = deed[0]
    return " ".join([word] + [part_written(kind, part) for kind, part in zip(SHAPES[word], deed[1:])])


def part_written(kind, part):
    """Tell how a part of that kind is written."""
    if kind == "ear":
        return shown(part)
    if kind == "place":
        return PLACES[part]
    return str(part)


def read_deed(line):
    """Tell the deed that a line writes; BadLine where it writes none."""
    word = line.partition(" ")[0]
    if word not in SHAPES:
        raise BadLine()
    shape = SHAPES[word]
    # No more blanks part the line than there are parts, so that an ear stays whole; where
    # no part is due at all, whatever stands behind the word stays with it.
    head, *texts = line.split(" ", len(shape))
    if head != word or len(texts) != len(shape):
        raise BadLine()
    return (word,) + tuple([read_part(kind, text) for kind, text in zip(shape, texts)])


def read_part(kind, text):
    """Tell the part of that kind that a text writes; BadLine where it writes none."""
    if kind == "ear":
        return read_ear_part(text)
    if kind == "place":
        return read_place(text)
    return read_number(text)


def read_ear_part(text):
    """Tell the ear that a text writes; BadLine where it writes none."""
    try:
        return read_ear(text)
    except BadEar:
        raise BadLine() from None


def read_place(text):
    """Tell the place that two letters write; BadLine where they write none."""
    if text not in PLACES:
        raise BadLine()
    return PLACES.index(text)


def read_number(text):
    """Tell the number that a text writes in figures, without a nought ahead; BadLine."""
    if not 1 <= len(text) <= MOST_FIGURES or any([sign not in FIGURES for sign in text]):
        raise BadLine()
    if text[0] == "0" and text != "0":
        raise BadLine()
    return int(text)
