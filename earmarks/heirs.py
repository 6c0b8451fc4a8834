"""Heirs: the ears that come of a mark by further cuts, and the first free one."""

from earmarks.errors import NoneFree
from earmarks.gaps import lacks, meet, torn


def offspring(mark, extra):
    """Tell all ears that are deeper than a mark by just so many cuts, rising, each once."""
    return [ear for ear in torn(mark, extra) if lacks(mark, ear) == extra]


def first_free(mark, extra, rows, room):
    """Tell the least offspring that meets no row, of whatever owner; NoneFree."""
    for ear in offspring(mark, extra):
        if not any([meet(ear, taken, room) for owner, taken in rows]):
            return ear
    raise NoneFree()
