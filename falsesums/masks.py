"""Products as masks, and numbers over one bottom: by these many terms are reckoned quickly.

A mask is a whole number that has a bit for each place, so the product of two products
is one step; and numbers over one bottom are added without looking for divisors.
"""

from falsesums.fields import common_bottom


def mask_of(product):
    """The product as a whole number that has the bit of each of its places."""
    mask = 0
    for place in product:
        mask |= 1 << place
    return mask


def bottom_of(sums):
    """The least bottom over which all numbers of these sums can be written."""
    return common_bottom([number for one in sums for product, number in one.terms()])


def mask_terms(one, bottom):
    """The terms of a sum as tuples of a mask and a whole number, which is over the bottom."""
    return [(mask_of(product), bottom // number[1] * number[0]) for product, number in one.terms()]


def multiplied_out(pairs):
    """All pairs of sums, multiplied and added up: a dict from masks to whole numbers, and their bottom."""
    first = bottom_of([one for one, other in pairs])
    second = bottom_of([other for one, other in pairs])
    totals = {}
    for one, other in pairs:
        factors = mask_terms(other, second)
        for mask, number in mask_terms(one, first):
            for more, factor in factors:
                both = mask | more
                totals[both] = totals.get(both, 0) + number * factor
    return totals, first * second


def without_noughts(totals, prime):
    """The totals that aren't nought in the field of this prime."""
    if prime:
        totals = {mask: number % prime for mask, number in totals.items()}
    return {mask: number for mask, number in totals.items() if number}


def bracket_worths(wholes, places):
    """What each product of these places, times 1 less each of the other ones, is worth.

    Worths are whole numbers by masks. The first of the places is the lowest bit by which what
    is told is numbered: 1 where the place is in the product.
    """
    masks = [0]
    for place in places:
        masks = masks + [mask | 1 << place for mask in masks]
    found = [wholes[mask] for mask in masks]
    step = 1
    while step < len(found):
        found = [number if at & step else number - found[at + step] for at, number in enumerate(found)]
        step *= 2
    return found
