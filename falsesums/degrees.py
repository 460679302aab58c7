"""Degrees, and the products of up to so many places."""

from falsesums.errors import NoDegree
from falsesums.kinds import is_whole

MOST_DEGREE = 300


def checked_degree(degree):
    """The degree handed in, or the refusal of what is none."""
    if not is_whole(degree) or not 0 <= degree <= MOST_DEGREE:
        raise NoDegree("a degree is a whole number from 0 to 300")
    return degree


def many_products(places, size):
    """How many products of at most so many of the places there are."""
    total, alike = 0, 1
    for many in range(min(size, places) + 1):
        total += alike
        alike = alike * (places - many) // (many + 1)
    return total


def all_products(places, size):
    """All these products, those with fewer places first, alike many as tuples are sorted."""
    alike = [()]
    found = [()] if size >= 0 else []
    for many in range(min(size, places)):
        alike = [product + (place,) for product in alike
                 for place in range(product[-1] + 1 if product else 0, places)]
        found.extend(alike)
    return found
