"""Tells of anything whether it has one of the plain forms that all modules speak of.

Each form is asked for its kind before anything is compared, so that things of any
kind may be handed in.
"""

MOST_PLACES = 60


def is_whole(thing):
    """Whether thing is a whole number; truths are ints to Python, but none to us."""
    return isinstance(thing, int) and not isinstance(thing, bool)


def is_place(thing):
    """Whether thing is a place, from 0 to 59."""
    return is_whole(thing) and 0 <= thing < MOST_PLACES


def is_product(thing):
    """Whether thing is a rising tuple of unlike places."""
    if not isinstance(thing, tuple) or not all([is_place(place) for place in thing]):
        return False
    return all([place < later for place, later in zip(thing, thing[1:])])


def is_order(thing):
    """Whether thing is a list of unlike places."""
    if not isinstance(thing, list) or not all([is_place(place) for place in thing]):
        return False
    return len(set(thing)) == len(thing)


def is_row_of_bits(thing):
    """Whether thing is a tuple of 0 and 1."""
    return isinstance(thing, tuple) and all([is_whole(bit) and 0 <= bit <= 1 for bit in thing])
