"""Papers of the second kind, over the fractions: wishes may say not below nought, and brackets never are."""

from falsesums.degrees import all_products, checked_degree, many_products
from falsesums.errors import NoField
from falsesums.fields import FRACTIONS, Field, common_bottom
from falsesums.kinds import is_product, is_whole
from falsesums.masks import bracket_worths, mask_of, multiplied_out
from falsesums.papers import are_multipliers, lets_worths, multiples_worth, whole_by_mask
from falsesums.sums import Sum


def checked_fractions(field):
    """Refuses a field that isn't that of the fractions."""
    if field.prime() != FRACTIONS:
        raise NoField("papers of the second kind are over the fractions alone")


def is_bracket(thing):
    """Whether thing is a tuple of two products that have no place in common."""
    if not isinstance(thing, tuple) or len(thing) != 2 or not is_product(thing[0]) or not is_product(thing[1]):
        return False
    return not any([place in thing[0] for place in thing[1]])


def bracket_sum(bracket):
    """The product of the places held, and of 1 less each place lacked."""
    held, lacked = bracket
    terms = [(held, (1, 1))]
    for place in lacked:
        terms = terms + [(tuple(sorted(product + (place,))), (-top, 1)) for product, (top, bottom) in terms]
    return Sum(Field(), terms)


def lets_sided(system, degree, thing):
    """Whether thing is a sided showing of the degree for the system."""
    checked_fractions(system.field())
    checked_degree(degree)
    if not isinstance(thing, tuple) or len(thing) != 2:
        return False
    multipliers, rows = thing
    if not are_multipliers(system, degree, multipliers) or not are_rows(system, degree, rows):
        return False
    totals, bottom = multiplied_out(list(zip(multipliers, system.noughts())))
    terms = [((mask, 0), (number, bottom)) for mask, number in totals.items()]
    for bracket, number, share in rows:
        terms.extend(row_terms(system, bracket, number, share))
    # What comes to -1 is nought with 1 more.
    terms.append(((0, 0), (1, 1)))
    common = common_bottom([number for bracket, number in terms])
    return vanishes(merged([(bracket, common // number[1] * number[0]) for bracket, number in terms]))


def are_rows(system, degree, thing):
    """Whether thing is a list of tuples (bracket, number, share) that come within the degree."""
    if not isinstance(thing, list):
        return False
    degrees = [upper.degree() for upper in system.uppers()]
    return all([is_row(system.field(), degrees, degree, row) for row in thing])


def is_row(field, degrees, degree, thing):
    """Whether thing is a tuple (bracket, number, share) within the degree; degrees are those of the uppers."""
    if not isinstance(thing, tuple) or len(thing) != 3:
        return False
    bracket, number, share = thing
    if not is_bracket(bracket) or not field.is_number(share) or share[0] <= 0:
        return False
    size = len(bracket[0]) + len(bracket[1])
    if number is None:
        return size <= degree
    return is_whole(number) and 0 <= number < len(degrees) and size + degrees[number] <= degree


def row_terms(system, bracket, number, share):
    """The terms of a row: tuples of a bracket of masks and a number."""
    held, lacked = mask_of(bracket[0]), mask_of(bracket[1])
    if number is None:
        return [((held, lacked), share)]
    found = []
    for product, factor in system.uppers()[number].terms():
        # A place times 1 less itself is nought.
        if not mask_of(product) & lacked:
            found.append(((held | mask_of(product), lacked), system.field().times(share, factor)))
    return found


def merged(terms):
    """A dict from brackets of masks to whole numbers, of a list of such tuples, without noughts."""
    totals = {}
    for bracket, number in terms:
        totals[bracket] = totals.get(bracket, 0) + number
    return {bracket: number for bracket, number in totals.items() if number}


def vanishes(brackets):
    """Whether brackets of masks, each times its whole number, come together to nought.

    Long ones are not multiplied out. A place that is lacked somewhere is taken out of all: they come to
    nought where they do so for 0 in its stead, and for 1, or, which is as good and may be less to look
    at, where what they have for 1 more than for 0 does.
    """
    lacked = 0
    for bracket in brackets:
        lacked |= bracket[1]
    if not lacked:
        # Products of places alone never cancel one another.
        return not brackets
    bit = lacked & -lacked
    apart = [(bracket, number) for bracket, number in brackets.items() if not (bracket[0] | bracket[1]) & bit]
    for_one = [((bracket[0] ^ bit, bracket[1]), number) for bracket, number in brackets.items() if bracket[0] & bit]
    for_nought = [((bracket[0], bracket[1] ^ bit), number) for bracket, number in brackets.items()
                  if bracket[1] & bit]
    if not vanishes(merged(apart + for_nought)):
        return False
    if len(apart) <= len(for_nought):
        return vanishes(merged(apart + for_one))
    return vanishes(merged(for_one + [(bracket, -number) for bracket, number in for_nought]))


def no_bracket_below(wholes, places, size):
    """Whether no bracket of at most this size is worth less than 0 by worths in whole numbers, by masks."""
    size = min(size, places)
    # Those of the full size are enough: each other one is the sum of two that have a place more.
    for product in all_products(places, size):
        if len(product) == size and min(bracket_worths(wholes, product)) < 0:
            return False
    return True


def lets_sided_worths(system, degree, thing):
    """Whether thing is sided worths of the degree for the system."""
    checked_fractions(system.field())
    if not lets_worths(system, degree, thing):
        return False
    wholes, places = whole_by_mask(thing), system.places()
    if not no_bracket_below(wholes, places, degree):
        return False
    for upper in system.uppers():
        room = degree - upper.degree()
        many = many_products(places, room)
        multiples = dict(zip(list(wholes)[:many], multiples_worth(wholes, upper, many)))
        if room >= 0 and not no_bracket_below(multiples, places, room):
            return False
    return True


def sided_of(showing):
    """The sided showing that a showing makes: each sum times -1, and no rows."""
    for one in showing:
        checked_fractions(one.field())
    return ([one.scaled((-1, 1)) for one in showing], [])
