"""Small papers: by likenesses one number for each class says all, and whole papers are made of them."""

from falsesums.answers import answer
from falsesums.degrees import checked_degree, many_pairs, many_products
from falsesums.errors import NoShowing, NoWorths, TooMany
from falsesums.fields import FRACTIONS
from falsesums.kinds import is_product, is_whole
from falsesums.likenesses import MOST_CLASSED, checked_likenesses, classed_pairs, classed_products
from falsesums.masks import mask_of
from falsesums.papers import lets_showing, lets_worths
from falsesums.sided import checked_fractions
from falsesums.sums import Sum
from falsesums.telling import MOST_TOLD_PAIRS, MOST_TOLD_PRODUCTS, multiple, whole_form


def checked_small(system, likenesses, degree):
    """The likenesses as tuples, or the refusal of what small papers are not told of."""
    checked_fractions(system.field())
    orders = checked_likenesses(system, likenesses)
    checked_degree(degree)
    if many_products(system.places(), degree) > MOST_CLASSED or many_pairs(system, degree) > MOST_CLASSED:
        raise TooMany("small papers are told of at most 20000 products and pairs")
    return orders


def class_rows(system, of_products, of_pairs):
    """A tuple of lists: the numbers of classes of pairs, and the row that each one's first pair makes.

    A row has a column for each class of products: all products of a class are worth the same, and so
    are all pairs of a class.
    """
    column_of = {mask_of(product): column for column, listed in enumerate(of_products) for product in listed}
    terms = [whole_form(nought)[0] for nought in system.noughts()]
    found = []
    for at, listed in enumerate(of_pairs):
        number, product = listed[0]
        row = multiple(terms[number], mask_of(product), column_of, FRACTIONS)
        if row:
            found.append((len(product) + system.noughts()[number].degree(), at, row))
    # Those of small degrees first, as in telling.
    found = sorted(found, key=lambda one: one[0])
    return ([at for size, at, row in found], [row for size, at, row in found])


def small(system, likenesses, degree):
    """A tuple (`showing`, a small showing of the degree), or (`worths`, small worths of it)."""
    orders = checked_small(system, likenesses, degree)
    of_products = classed_products(system, orders, degree)
    of_pairs = classed_pairs(system, orders, degree)
    if len(of_products) > MOST_TOLD_PRODUCTS or len(of_pairs) > MOST_TOLD_PAIRS:
        raise TooMany("small papers are told of at most 600 classes of products and 2000 of pairs")
    numbers, rows = class_rows(system, of_products, of_pairs)
    word, paper = answer(FRACTIONS, rows, len(of_products))
    if word == "held":
        return ("worths", [(listed[0], number) for listed, number in zip(of_products, paper)])
    return ("showing", small_showing_of(system, of_pairs, {numbers[at]: share for at, share in paper.items()}))


def small_showing_of(system, of_pairs, shares):
    """The small showing in which whole classes have these shares, a dict by their numbers."""
    field = system.field()
    factors = [whole_form(nought)[1] for nought in system.noughts()]
    found = []
    for at in sorted(shares):
        number, product = of_pairs[at][0]
        # The share of a class is parted among its pairs.
        share = field.over(field.times(shares[at], factors[number]), (len(of_pairs[at]), 1))
        if share[0]:
            found.append((number, product, share))
    return found


def is_share(field, thing):
    """Whether thing is a tuple (number, product, share), the share not nought."""
    if not isinstance(thing, tuple) or len(thing) != 3 or not is_whole(thing[0]) or not is_product(thing[1]):
        return False
    return field.is_number(thing[2]) and thing[2][0] != 0


def spread_showing(system, of_pairs, thing):
    """The sums that have each pair of a class with its share; None of what has not the form of a small showing."""
    field = system.field()
    if not isinstance(thing, list) or not all([is_share(field, one) for one in thing]):
        return None
    class_at = {listed[0]: at for at, listed in enumerate(of_pairs)}
    terms = [[] for nought in system.noughts()]
    last = -1
    for number, product, share in thing:
        at = class_at.get((number, product), -1)
        # In the classes' order, so none stands twice; what is no first pair is behind none.
        if at <= last:
            return None
        last = at
        for each, other in of_pairs[at]:
            terms[each].append((other, share))
    return [Sum(field, listed) for listed in terms]


def whole_showing(system, likenesses, degree, small_showing):
    """The showing that a small showing of the degree makes."""
    orders = checked_small(system, likenesses, degree)
    whole = spread_showing(system, classed_pairs(system, orders, degree), small_showing)
    if whole is None or not lets_showing(system, degree, whole):
        raise NoShowing("a whole showing is made of a small one")
    return whole


def are_numbers(field, of_products, thing):
    """Whether thing is a list of a tuple (product, number) for each class, by its first product."""
    if not isinstance(thing, list) or len(thing) != len(of_products):
        return False
    for listed, one in zip(of_products, thing):
        if not isinstance(one, tuple) or len(one) != 2 or not is_product(one[0]) or one[0] != listed[0]:
            return False
    return all([field.is_number(number) for product, number in thing])


def whole_worths(system, likenesses, degree, small_worths):
    """The worths that small worths of the degree make."""
    orders = checked_small(system, likenesses, degree)
    of_products = classed_products(system, orders, degree)
    if not are_numbers(system.field(), of_products, small_worths):
        raise NoWorths("whole worths are made of small ones")
    whole = {product: number for listed, (first, number) in zip(of_products, small_worths) for product in listed}
    if not lets_worths(system, degree, whole):
        raise NoWorths("whole worths are made of small ones")
    return whole
