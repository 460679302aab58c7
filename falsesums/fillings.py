"""Fillings of systems: which they are, and all of them."""

from falsesums.errors import TooMany
from falsesums.fields import common_bottom
from falsesums.kinds import is_row_of_bits

MOST_FILLED_PLACES = 12


def is_filling(system, thing, sided=False):
    """Whether thing is a filling of the system; sided, whether it is an all round one."""
    if not is_row_of_bits(thing) or len(thing) != system.places():
        return False
    for nought in system.noughts():
        if nought.worth(thing)[0] != 0:
            return False
    return not sided or all([upper.worth(thing)[0] >= 0 for upper in system.uppers()])


def fillings(system, sided=False):
    """All fillings of the system, sorted; sided, all that are all round ones."""
    places = system.places()
    if places > MOST_FILLED_PLACES:
        raise TooMany("all fillings are told of at most twelve places")
    kept = list(enumerate(rows_of_bits(places)))
    for nought in system.noughts():
        worths = worths_everywhere(nought, places)
        kept = [(at, row) for at, row in kept if worths[at] == 0]
    if sided:
        for upper in system.uppers():
            worths = worths_everywhere(upper, places)
            kept = [(at, row) for at, row in kept if worths[at] >= 0]
    return [row for at, row in kept]


def rows_of_bits(many):
    """All tuples of so many 0 and 1, sorted."""
    rows = [()]
    for added in range(many):
        rows = [row + (bit,) for row in rows for bit in (0, 1)]
    return rows


def worths_everywhere(one, places):
    """A whole number for each row of bits, in their order: nought and below nought where the sum is."""
    worths = worths_from(whole_terms(one), 0, places)
    prime = one.field().prime()
    return [worth % prime for worth in worths] if prime else worths


def whole_terms(one):
    """The terms with whole numbers: all are multiplied alike by what leaves their signs."""
    bottom = common_bottom([number for product, number in one.terms()])
    return [(product, bottom // number[1] * number[0]) for product, number in one.terms()]


def worths_from(terms, place, places):
    """The worths of whole terms that have no place below this one, at all rows of the places from it on."""
    if place == places:
        return [sum([number for product, number in terms])]
    if not terms:
        # Halving stops here, so that sums with few terms are quickly done.
        return [0] * (1 << (places - place))
    unheld = worths_from([term for term in terms if place not in term[0]], place + 1, places)
    held = worths_from([term for term in terms if place in term[0]], place + 1, places)
    return unheld + [worth + more for worth, more in zip(unheld, held)]
