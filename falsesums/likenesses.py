"""Likenesses: orders of a system's places by which it stays as it is, and classes of what they lead to one another."""

from falsesums.degrees import all_products, checked_degree, many_pairs, many_products
from falsesums.errors import NoLikeness, TooMany
from falsesums.kinds import is_order

MOST_CLASSED = 20000


def forms(wishes):
    """The terms of each wish as a tuple: sums are alike where these are."""
    return [tuple(wish.terms()) for wish in wishes]


def is_likeness(system, thing):
    """Whether thing is an order of the system's places by which, renamed, it has the same wishes."""
    if not is_order(thing) or sorted(thing) != list(range(system.places())):
        return False
    renamed = system.renamed(thing)
    return (sorted(forms(renamed.noughts())) == sorted(forms(system.noughts()))
            and sorted(forms(renamed.uppers())) == sorted(forms(system.uppers())))


def checked_likenesses(system, likenesses):
    """The likenesses handed in, each once, as tuples; or the refusal of what are none."""
    if not isinstance(likenesses, list) or not all([is_likeness(system, order) for order in likenesses]):
        raise NoLikeness("likenesses are a list of orders by which the system stays as it is")
    return sorted({tuple(order) for order in likenesses})


def renamed_product(product, order):
    """The product with place order[i] in the stead of place i."""
    return tuple(sorted([order[place] for place in product]))


def led_noughts(system, order):
    """For each nought the number of that to which the likeness leads it: the first of alike ones to the first."""
    numbers_of = {}
    for number, form in enumerate(forms(system.noughts())):
        numbers_of.setdefault(form, []).append(number)
    led_forms = forms(system.renamed(list(order)).noughts())
    led = [0] * len(led_forms)
    for numbers in numbers_of.values():
        for number, goal in zip(numbers, numbers_of[led_forms[numbers[0]]]):
            led[number] = goal
    return led


def all_pairs(system, degree):
    """All pairs (number, product) of a nought and a product that come within the degree, sorted."""
    places, noughts = system.places(), system.noughts()
    # No more than are wanted: of products that stand in no pair there may be far too many.
    products = all_products(places, max([degree - nought.degree() for nought in noughts], default=-1))
    return [(number, product) for number, nought in enumerate(noughts)
            for product in products[:many_products(places, degree - nought.degree())]]


def reached(start, leads, seen):
    """The numbers, sorted, of all things to which that of this number is led; they are seen then."""
    seen[start] = True
    ahead, found = [start], []
    while ahead:
        at = ahead.pop()
        found.append(at)
        for lead in leads:
            if not seen[lead[at]]:
                seen[lead[at]] = True
                ahead.append(lead[at])
    return sorted(found)


def classes(things, leads):
    """Sorted things as classes; each of the leads has, for each thing, the number of that to which it is led."""
    seen = [False] * len(things)
    found = []
    for start in range(len(things)):
        if not seen[start]:
            found.append([things[at] for at in reached(start, leads, seen)])
    return found


def classed_products(system, orders, degree):
    """The classes of products by likenesses, which are such."""
    products = all_products(system.places(), degree)
    at_of = {product: at for at, product in enumerate(products)}
    return classes(products, [[at_of[renamed_product(product, order)] for product in products] for order in orders])


def classed_pairs(system, orders, degree):
    """The classes of pairs by likenesses, which are such."""
    pairs = all_pairs(system, degree)
    at_of = {pair: at for at, pair in enumerate(pairs)}
    leads = []
    for order in orders:
        led = led_noughts(system, order)
        leads.append([at_of[(led[number], renamed_product(product, order))] for number, product in pairs])
    return classes(pairs, leads)


def product_classes(system, likenesses, degree):
    """The classes of products of at most so many places, each sorted, sorted by their first ones."""
    orders = checked_likenesses(system, likenesses)
    if many_products(system.places(), checked_degree(degree)) > MOST_CLASSED:
        raise TooMany("classes are told of at most 20000 products")
    return classed_products(system, orders, degree)


def pair_classes(system, likenesses, degree):
    """The classes of pairs of a nought and a product that come within the degree, likewise."""
    orders = checked_likenesses(system, likenesses)
    if many_pairs(system, checked_degree(degree)) > MOST_CLASSED:
        raise TooMany("classes are told of at most 20000 pairs")
    return classed_pairs(system, orders, degree)
