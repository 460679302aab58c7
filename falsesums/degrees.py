"""Degrees, and the products of up to so many places."""

from falsesums.errors import NoDegree
from falsesums.kinds import is_whole

MOST_DEGREE = 300


def checked_degree(degree):
    """The degree handed in, or the refusal of what is none."""
    if not is_whole(degree) or not 0 <= degree <= MOST_DEGREE:
        raise NoDegree("a degree is a whole number from 0 to 300")
    return degree


def many_products(places, size):
    """How many products of at most so many of the places there are."""
    return many_choices(places, size, 1)


def many_pairs(system, degree):
    """How many pairs of a nought and a product of the system come within the degree."""
    return sum([many_products(system.places(), degree - nought.degree()) for nought in system.noughts()])


def many_brackets(places, size):
    """How many brackets of at most so many of the places there are: each place is held or lacked."""
    return many_choices(places, size, 2)


def many_choices(places, size, ways):
    """In how many ways at most so many of the places can be taken, each in so many ways."""
    total, alike = 0, 1
    for many in range(min(size, places) + 1):
        total += alike
        alike = alike * (places - many) * ways // (many + 1)
    return total


def all_products(places, size):
    """All these products, those with fewer places first, alike many as tuples are sorted."""
    alike = [()]
    found = [()] if size >= 0 else []
    for many in range(min(size, places)):
        alike = [product + (place,) for product in alike
                 for place in range(product[-1] + 1 if product else 0, places)]
        found.extend(alike)
    return found
