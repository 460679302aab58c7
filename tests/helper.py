"""What the tests share: things of other kinds, and an own reckoning with Python's fractions."""

import random
from fractions import Fraction

from falsesums.fields import Field
from falsesums.sums import Sum

PRIMES = [2, 3, 5, 7, 11, 13, 17, 19, 23, 29, 31, 37, 41, 43, 47, 53, 59, 61, 67, 71, 73, 79, 83, 89, 97]


class Stubborn:
    """A thing that does not let itself be compared, measured or hashed."""

    __hash__ = None

    def __eq__(self, other):
        raise RuntimeError("compared")

    def __lt__(self, other):
        raise RuntimeError("compared")

    def __len__(self):
        raise RuntimeError("measured")

    def __bool__(self):
        raise RuntimeError("asked for its truth")


def odd_things():
    """Things that are no whole number, list, tuple or text that anything here wants."""
    return [None, True, False, "", "1", "7", "a b", b"", b"1", [], [1], [None], (), (1,), (1, 2, 3), {}, {1: 1},
            {"prime": 7}, set(), {1, 2}, frozenset([1]), 2 + 0j, object(), Stubborn(), int, len, range(3),
            [Stubborn()], (Stubborn(),), (Stubborn(), Stubborn()), [[[]]], ((), ()), Fraction(1, 2)]


def but(*kinds):
    """The odd things of none of these kinds."""
    return [thing for thing in odd_things() if not isinstance(thing, kinds)]


def number_of(field, fraction):
    """A Fraction as a number of the field, reckoned by trying."""
    fraction = Fraction(fraction)
    if field.prime() == 0:
        return (fraction.numerator, fraction.denominator)
    for top in range(field.prime()):
        if (top * fraction.denominator - fraction.numerator) % field.prime() == 0:
            return (top, 1)
    raise AssertionError("no such number")


def sum_of(field, terms):
    """A Sum of a dict from products to Fractions."""
    return Sum(field, [(product, number_of(field, number)) for product, number in terms.items()])


def worth_by_hand(one, filling):
    """The worth of a sum, reckoned with Fractions."""
    total = Fraction(0)
    for product, (top, bottom) in one.terms():
        if all(filling[place] == 1 for place in product):
            total += Fraction(top, bottom)
    return number_of(one.field(), total)


def all_rows(many):
    """All tuples of 0 and 1 of this length, sorted."""
    return [tuple(int(bit) for bit in format(number, "b").zfill(many)) if many else ()
            for number in range(2 ** many)]


def some_number(field, chance):
    """A number of the field, made by chance with a seed."""
    if field.prime():
        return (chance.randrange(field.prime()), 1)
    fraction = Fraction(chance.randint(-9, 9), chance.randint(1, 6))
    return (fraction.numerator, fraction.denominator)


def some_product(places, chance, most=4):
    """A product of at most so many places below places."""
    return tuple(sorted(chance.sample(range(places), chance.randint(0, min(most, places)))))


def some_sum(field, places, many, chance):
    """A sum of at most so many terms."""
    return Sum(field, [(some_product(places, chance), some_number(field, chance)) for _ in range(many)])


def seeded(seed):
    """Chance that is the same in each run."""
    return random.Random(seed)


FRACTIONS = Field()
SOME_FIELDS = [Field(0), Field(2), Field(3), Field(7), Field(97)]
