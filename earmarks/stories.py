"""Stories: what befell a beast, and what that comes to.

A stand is a tuple (owner, ground, due ear or None, ear as it is, alive).
"""

from earmarks.ears import BARE_EAR


def begun(first):
    """Tell the stand of a beast that came as the first tuple of its story tells."""
    if first[0] == "born":
        word, mother, owner, ground = first
        return (owner, ground, None, BARE_EAR, True)
    word, owner, ground, ear = first
    return (owner, ground, None, ear, True)


def gone_on(stand, event):
    """Tell the stand of a beast that stood so and then had this befall it."""
    owner, ground, due, ear, alive = stand
    word = event[0]
    if word == "cut":
        due = ear = event[1]
    elif word == "torn":
        ear = deepened(ear, event[1])
    elif word == "sold":
        owner = event[1]
        due = ear = event[2]
    elif word == "moved":
        ground = event[1]
    elif word == "followed":
        owner = event[1]
        ground = event[2]
    elif word == "passed":
        owner = event[1]
    elif word == "died":
        alive = False
    return (owner, ground, due, ear, alive)


def deepened(ear, place):
    """Tell an ear that is deeper by one at a place, however deep that is."""
    return tuple([depth + 1 if at == place else depth for at, depth in enumerate(ear)])


def ended(story):
    """Tell the stand that a whole story comes to."""
    first, *later = story
    stand = begun(first)
    for event in later:
        stand = gone_on(stand, event)
    return stand


def tears_since(story):
    """Tell how many tears stand behind the last cut or sold; None where there is none such."""
    tears = None
    for event in story:
        if event[0] in ("cut", "sold"):
            tears = 0
        elif event[0] == "torn" and tears is not None:
            tears += 1
    return tears
