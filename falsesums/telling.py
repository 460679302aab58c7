"""Which of the two papers of the first kind is there at a degree, and that paper."""

from falsesums.answers import answer, rank
from falsesums.degrees import all_products, checked_degree, many_pairs, many_products
from falsesums.errors import TooMany
from falsesums.fields import whole_tops
from falsesums.masks import mask_of, mask_terms
from falsesums.sums import Sum

MOST_TOLD_PRODUCTS = 600
MOST_TOLD_PAIRS = 2000


def checked_size(system, degree):
    """Refuses a degree that is none, and one at which there is too much to be told."""
    checked_degree(degree)
    if many_products(system.places(), degree) > MOST_TOLD_PRODUCTS:
        raise TooMany("papers are told of at most 600 products")
    if many_pairs(system, degree) > MOST_TOLD_PAIRS:
        raise TooMany("papers are told of at most 2000 pairs of a nought and a product")


def whole_form(one):
    """The terms of a sum as masks and small whole numbers, and the number that multiplied them."""
    if one.field().prime():
        return (mask_terms(one, 1), one.field().made(1))
    tops, factor = whole_tops([number for product, number in one.terms()])
    return ([(mask_of(product), top) for (product, number), top in zip(one.terms(), tops)], factor)


def multiple(terms, mask, column_of, prime):
    """The row that the product of this mask, times whole terms, makes."""
    totals = {}
    for more, number in terms:
        column = column_of[mask | more]
        totals[column] = totals.get(column, 0) + number
    if prime:
        totals = {column: number % prime for column, number in totals.items()}
    return [(column, number) for column, number in totals.items() if number]


def multiples(system, degree, products):
    """A tuple of lists: pairs of a nought's number and a product within the degree, and their rows.

    Those of small degrees come first: so a showing that needs no more is found without the others.
    Pairs that come to nought are left out.
    """
    column_of = {mask_of(product): column for column, product in enumerate(products)}
    found = []
    for number, nought in enumerate(system.noughts()):
        terms = whole_form(nought)[0]
        for product in products[:many_products(system.places(), degree - nought.degree())]:
            row = multiple(terms, mask_of(product), column_of, system.field().prime())
            if row:
                found.append((len(product) + nought.degree(), (number, product), row))
    found = sorted(found, key=lambda one: one[0])
    return ([pair for size, pair, row in found], [row for size, pair, row in found])


def showing_of(system, pairs, shares):
    """The showing in which the pairs have these shares, a dict by their numbers."""
    field = system.field()
    factors = [whole_form(nought)[1] for nought in system.noughts()]
    terms = [[] for nought in system.noughts()]
    for at, share in shares.items():
        number, product = pairs[at]
        terms[number].append((product, field.times(share, factors[number])))
    return [Sum(field, listed) for listed in terms]


def told(system, degree):
    """A tuple (`showing`, a showing of the degree), or (`worths`, worths of it)."""
    checked_size(system, degree)
    products = all_products(system.places(), degree)
    pairs, rows = multiples(system, degree, products)
    word, paper = answer(system.field().prime(), rows, len(products))
    if word == "held":
        return ("worths", dict(zip(products, paper)))
    return ("showing", showing_of(system, pairs, paper))


def free(system, degree):
    """How many worths of the degree may be chosen at will; None where a showing is there."""
    checked_size(system, degree)
    products = all_products(system.places(), degree)
    rows = multiples(system, degree, products)[1]
    many = rank(system.field().prime(), rows, len(products))
    return None if many is None else len(products) - 1 - many
