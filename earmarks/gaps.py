"""How ears lie to one another."""

from earmarks.ears import GREATEST_DEPTH


def deeper(shallow, deep):
    """Tell whether the second ear is at least as deep at each place as the first."""
    return all([low <= high for low, high in zip(shallow, deep)])


def joint(one, other):
    """Tell the ear with the greater depth at each place."""
    return tuple([max(here, there) for here, there in zip(one, other)])


def common(one, other):
    """Tell the ear with the lesser depth at each place."""
    return tuple([min(here, there) for here, there in zip(one, other)])


def lacks(one, other):
    """Tell how many tears the first ear lacks of the second."""
    return sum([there - here for here, there in zip(one, other) if there > here])


def apart(one, other):
    """Tell the greater of what each ear lacks of the other."""
    return max(lacks(one, other), lacks(other, one))


def meet(one, other, room):
    """Tell whether two ears lie apart by no more than the room."""
    return apart(one, other) <= room


def torn(ear, many):
    """Tell all ears that come of one by at most so many tears, rising, each once."""
    # Each head is the depths so far and the tears that are left behind them. Heads that
    # rise, each drawn on by depths that rise, rise again: so nothing has to be sorted.
    heads = [((), many)]
    for depth in ear:
        heads = [
            (head + (cut,), left - (cut - depth))
            for head, left in heads
            for cut in range(depth, min(depth + left, GREATEST_DEPTH) + 1)
        ]
    return [head for head, left in heads]
