"""Papers of the first kind: showings, that no filling grants a system, and worths, that no showing does."""

from falsesums.degrees import all_products, checked_degree, many_products
from falsesums.errors import NoFilling, NoWorth, TooMany
from falsesums.fields import common_bottom
from falsesums.fillings import is_filling
from falsesums.kinds import is_product
from falsesums.masks import bottom_of, mask_of, mask_terms, multiplied_out, without_noughts
from falsesums.systems import is_wish

MOST_PRODUCTS = 20000


def are_multipliers(system, degree, thing):
    """Whether thing is a list of a sum for each nought that comes with it to at most the degree."""
    noughts = system.noughts()
    if not isinstance(thing, list) or len(thing) != len(noughts):
        return False
    if not all([is_wish(system.field(), system.places(), one) for one in thing]):
        return False
    return all([len(one) == 0 or one.degree() + nought.degree() <= degree for one, nought in zip(thing, noughts)])


def lets_showing(system, degree, thing):
    """Whether thing is a showing of the degree for the system."""
    checked_degree(degree)
    if not are_multipliers(system, degree, thing):
        return False
    totals, bottom = multiplied_out(list(zip(thing, system.noughts())))
    return without_noughts(totals, system.field().prime()) == {0: bottom}


def are_numbered_products(system, degree, thing):
    """Whether thing is a dict from all products of at most so many places to numbers of the field."""
    if not isinstance(thing, dict) or len(thing) != many_products(system.places(), degree):
        return False
    for product, number in thing.items():
        # As many as there are, each one of them: so none is missing.
        if not is_product(product) or len(product) > degree or not system.field().is_number(number):
            return False
        if product and product[-1] >= system.places():
            return False
    return True


def whole_by_mask(worths):
    """The worths by masks, fewer places first, as whole numbers over one bottom."""
    bottom = common_bottom(list(worths.values()))
    return {mask_of(product): bottom // worths[product][1] * worths[product][0]
            for product in sorted(worths, key=len)}


def multiples_worth(wholes, one, many):
    """What the sum times each of the first so many products is worth, in whole numbers over one bottom."""
    terms = mask_terms(one, bottom_of([one]))
    return [sum([number * wholes[mask | more] for more, number in terms]) for mask in list(wholes)[:many]]


def lets_worths(system, degree, thing):
    """Whether thing is worths of the degree for the system."""
    checked_degree(degree)
    if not are_numbered_products(system, degree, thing) or thing[()] != system.field().made(1):
        return False
    wholes, prime = whole_by_mask(thing), system.field().prime()
    for nought in system.noughts():
        many = many_products(system.places(), degree - nought.degree())
        found = multiples_worth(wholes, nought, many)
        if any([number % prime for number in found] if prime else found):
            return False
    return True


def worth_of(worths, one):
    """What the sum is worth by the worths."""
    for product, number in one.terms():
        if product not in worths:
            raise NoWorth(product)
    bottom = bottom_of([one])
    worth_bottom = common_bottom([worths[product] for product, number in one.terms()])
    total = sum([bottom // number[1] * number[0] * (worth_bottom // worths[product][1]) * worths[product][0]
                 for product, number in one.terms()])
    return one.field().made(total, bottom * worth_bottom)


def cut(worths, degree):
    """The worths of the products that have at most so many places."""
    checked_degree(degree)
    return {product: number for product, number in worths.items() if len(product) <= degree}


def worths_of(system, degree, filling):
    """The worths of a filling: 1 where all places of a product are 1, else 0."""
    checked_degree(degree)
    if not is_filling(system, filling):
        raise NoFilling("worths are told of a filling of the system")
    if many_products(system.places(), degree) > MOST_PRODUCTS:
        raise TooMany("worths of a filling are told of at most 20000 products")
    field = system.field()
    return {product: field.made(min([filling[place] for place in product], default=1))
            for product in all_products(system.places(), degree)}
