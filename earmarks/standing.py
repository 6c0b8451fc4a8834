"""Standing ears: what bars an ear, whose it may be, and how it could pass as another's.

Rows are lists of pairs (owner, ear). An owner that is asked may be 0, which is nobody.
"""

from earmarks.errors import Clash
from earmarks.gaps import deeper, joint, lacks, meet


def tidied(rows):
    """Tell the rows rising, each once."""
    return sorted(set(rows))


def barring(owner, ear, rows, room):
    """Tell the rows that bar an owner's ear within a room, rising, each once."""
    return [
        (holder, mark)
        for holder, mark in tidied(rows)
        if holder != owner and meet(ear, mark, room)
    ]


def ask_room(owner, ear, rows, room):
    """Refuse with Clash, by the least row that bars an owner's ear, where there is one."""
    bars = barring(owner, ear, rows, room)
    if bars:
        holder, mark = bars[0]
        raise Clash((owner, ear), (holder, mark), joint(ear, mark))


def clashing(rows, room):
    """Tell all pairs (row, greater row) of two owners whose ears meet, rising, each once."""
    tidy = tidied(rows)
    # Each row is held against those behind it alone: so the pairs rise by themselves.
    return [
        (row, greater)
        for at, row in enumerate(tidy)
        for greater in tidy[at + 1:]
        if row[0] != greater[0] and meet(row[1], greater[1], room)
    ]


def owners_of(ear, rows, room):
    """Tell the owners whose an ear that is seen may be, rising, each once."""
    return tuple(sorted({
        holder for holder, mark in rows if deeper(mark, ear) and lacks(mark, ear) <= room
    }))


def passing(owner, ear, rows, room):
    """Tell the least way (cuts, owner, both) by which an ear may pass as another's, or None."""
    ways = [
        (lacks(ear, mark), holder, joint(ear, mark))
        for holder, mark in rows
        if holder != owner and lacks(mark, ear) <= room
    ]
    return min(ways, default=None)
