"""What the tests share: things of other kinds, an own reckoning with Python's fractions, and known systems."""

import itertools
import random
from fractions import Fraction

from falsesums.balances import balance
from falsesums.fields import Field
from falsesums.sided import bracket_sum
from falsesums.sums import Sum
from falsesums.systems import System

PRIMES = [2, 3, 5, 7, 11, 13, 17, 19, 23, 29, 31, 37, 41, 43, 47, 53, 59, 61, 67, 71, 73, 79, 83, 89, 97]


class Stubborn:
    """A thing that does not let itself be compared, measured or hashed."""

    __hash__ = None

    def __eq__(self, other):
        raise RuntimeError("compared")

    def __lt__(self, other):
        raise RuntimeError("compared")

    def __len__(self):
        raise RuntimeError("measured")

    def __bool__(self):
        raise RuntimeError("asked for its truth")


def odd_things():
    """Things that are no whole number, list, tuple or text that anything here wants."""
    return [None, True, False, "", "1", "7", "a b", b"", b"1", [], [1], [None], (), (1,), (1, 2, 3), {}, {1: 1},
            {"prime": 7}, set(), {1, 2}, frozenset([1]), 2 + 0j, object(), Stubborn(), int, len, range(3),
            [Stubborn()], (Stubborn(),), (Stubborn(), Stubborn()), [[[]]], ((), ()), Fraction(1, 2)]


def but(*kinds):
    """The odd things of none of these kinds."""
    return [thing for thing in odd_things() if not isinstance(thing, kinds)]


def number_of(field, fraction):
    """A Fraction as a number of the field, reckoned by trying."""
    fraction = Fraction(fraction)
    if field.prime() == 0:
        return (fraction.numerator, fraction.denominator)
    for top in range(field.prime()):
        if (top * fraction.denominator - fraction.numerator) % field.prime() == 0:
            return (top, 1)
    raise AssertionError("no such number")


def sum_of(field, terms):
    """A Sum of a dict from products to Fractions."""
    return Sum(field, [(product, number_of(field, number)) for product, number in terms.items()])


def worth_by_hand(one, filling):
    """The worth of a sum, reckoned with Fractions."""
    total = Fraction(0)
    for product, (top, bottom) in one.terms():
        if all(filling[place] == 1 for place in product):
            total += Fraction(top, bottom)
    return number_of(one.field(), total)


def all_rows(many):
    """All tuples of 0 and 1 of this length, sorted."""
    return [tuple(int(bit) for bit in format(number, "b").zfill(many)) if many else ()
            for number in range(2 ** many)]


def some_number(field, chance):
    """A number of the field, made by chance with a seed."""
    if field.prime():
        return (chance.randrange(field.prime()), 1)
    fraction = Fraction(chance.randint(-9, 9), chance.randint(1, 6))
    return (fraction.numerator, fraction.denominator)


def some_product(places, chance, most=4):
    """A product of at most so many places below places."""
    return tuple(sorted(chance.sample(range(places), chance.randint(0, min(most, places)))))


def some_sum(field, places, many, chance):
    """A sum of at most so many terms."""
    return Sum(field, [(some_product(places, chance), some_number(field, chance)) for _ in range(many)])


def seeded(seed):
    """Chance that is the same in each run."""
    return random.Random(seed)


def fraction_of(number):
    """A number of a field as a Fraction."""
    return Fraction(number[0], number[1])


def rest_of(field, fraction):
    """A Fraction as it is in the field: itself, or, over a prime, what it leaves."""
    return Fraction(number_of(field, fraction)[0]) if field.prime() else Fraction(fraction)


def products_by_hand(places, size):
    """All products of at most so many places, fewer first."""
    return [product for many in range(min(size, places) + 1) for product in itertools.combinations(range(places), many)]


def added_by_hand(field, pairs):
    """Pairs of sums multiplied and added up: a dict from products to what isn't nought in the field."""
    totals = {}
    for one, other in pairs:
        for product, number in one.terms():
            for more, factor in other.terms():
                both = tuple(sorted({*product, *more}))
                totals[both] = totals.get(both, Fraction(0)) + fraction_of(number) * fraction_of(factor)
    totals = {product: rest_of(field, total) for product, total in totals.items()}
    return {product: total for product, total in totals.items() if total}


def showing_by_hand(system, degree, thing):
    """Whether a list of sums over the field, one for each nought, is a showing."""
    for one, nought in zip(thing, system.noughts(), strict=True):
        if len(one) and one.degree() + nought.degree() > degree:
            return False
    return added_by_hand(system.field(), zip(thing, system.noughts())) == {(): 1}


def worth_by_worths(worths, field, one):
    """What a sum is worth, reckoned with Fractions."""
    return rest_of(field, sum((fraction_of(number) * fraction_of(worths[product]) for product, number in one.terms()),
                              Fraction(0)))


def worths_by_hand(system, degree, thing):
    """Whether a dict from products to numbers of the field is worths."""
    field = system.field()
    if set(thing) != set(products_by_hand(system.places(), degree)) or thing[()] != (1, 1):
        return False
    for nought in system.noughts():
        for product in products_by_hand(system.places(), degree - nought.degree()):
            multiple = Sum(field, [(product, (1, 1))]).times(nought)
            if worth_by_worths(thing, field, multiple) != 0:
                return False
    return True


def reduced_by_hand(rows, prime):
    """Rows, dicts from columns to Fractions or, over a prime, whole numbers, reduced one by one; told by their heads."""
    found = {}
    for row in rows:
        row = dict(row)
        for head, other in found.items():
            factor = row.get(head, 0)
            for column, number in other.items():
                row[column] = row.get(column, 0) - factor * number
                row[column] = row[column] % prime if prime else row[column]
        row = {column: number for column, number in row.items() if number}
        if row:
            head = max(row)
            factor = pow(int(row[head]), -1, prime) if prime else 1 / row[head]
            row = {column: number * factor % prime if prime else number * factor for column, number in row.items()}
            found[head] = row
    return found


def multiples_by_hand(system, degree):
    """The rows of all noughts times products within the degree; column 0 is the empty product."""
    products = products_by_hand(system.places(), degree)
    rows = []
    for nought in system.noughts():
        for product in products_by_hand(system.places(), degree - nought.degree()):
            multiple = Sum(system.field(), [(product, (1, 1))]).times(nought)
            rows.append({products.index(one): rest_of(system.field(), fraction_of(number))
                         for one, number in multiple.terms()})
    return rows


def showing_is_there(system, degree):
    """Whether 1 is a sum of multiples, by plain elimination."""
    return 0 in reduced_by_hand(multiples_by_hand(system, degree), system.field().prime())


def place(number, field=None):
    """The sum of one place."""
    return Sum(FRACTIONS if field is None else field, [((number,), (1, 1))])


def constant(field, top, bottom=1):
    """The sum of a number alone."""
    return Sum(field, [((), field.made(top, bottom))])


def linear(field, places, least):
    """The sum of these places, less a number."""
    return Sum(field, [((at,), (1, 1)) for at in places]).plus(constant(field, -least))


def guests(field, many, rooms):
    """Each guest is in one room, and each room has one guest."""
    return System(field, many * rooms, [linear(field, range(guest * rooms, (guest + 1) * rooms), 1)
                                        for guest in range(many)]
                  + [linear(field, range(room, many * rooms, rooms), 1) for room in range(rooms)])


def some_system(field, chance, most_places=4, most_noughts=3, uppers=0):
    """A system made by chance with a seed."""
    places = chance.randint(1, most_places)
    noughts = [some_sum(field, places, chance.randint(0, 4), chance) for _ in range(chance.randint(0, most_noughts))]
    above = [some_sum(field, places, chance.randint(0, 3), chance) for _ in range(chance.randint(0, uppers))]
    return System(field, places, noughts, [] if field.prime() else above)


def brackets_by_hand(places, size):
    """All brackets of at most this size."""
    found = []
    for both in products_by_hand(places, size):
        for row in all_rows(len(both)):
            found.append((tuple(at for at, bit in zip(both, row) if bit), tuple(at for at, bit in zip(both, row) if not bit)))
    return found


def bracket_at(bracket, row):
    return int(all(row[at] for at in bracket[0]) and not any(row[at] for at in bracket[1]))


def sided_by_hand(system, degree, thing):
    """Whether what has the form of a sided showing is one, all multiplied out."""
    multipliers, rows = thing
    uppers = system.uppers()
    pairs = list(zip(multipliers, system.noughts(), strict=True))
    if any(len(one) and one.degree() + nought.degree() > degree for one, nought in pairs):
        return False
    for bracket, number, share in rows:
        size = len(bracket[0]) + len(bracket[1]) + (0 if number is None else uppers[number].degree())
        if size > degree or share[0] <= 0:
            return False
        upper = constant(FRACTIONS, 1) if number is None else uppers[number]
        pairs.append((bracket_sum(bracket).scaled(share), upper))
    return added_by_hand(FRACTIONS, pairs) == {(): -1}


def sided_worths_by_hand(system, degree, worths):
    """Whether worths are sided ones, each bracket being looked at."""
    for bracket in brackets_by_hand(system.places(), degree):
        if worth_by_worths(worths, FRACTIONS, bracket_sum(bracket)) < 0:
            return False
    for upper in system.uppers():
        for bracket in brackets_by_hand(system.places(), degree - upper.degree()):
            if worth_by_worths(worths, FRACTIONS, bracket_sum(bracket).times(upper)) < 0:
                return False
    return worths_by_hand(system, degree, worths)


def sided_told(system, degree):
    """One of the two papers of the second kind, found as shares or weights."""
    products = products_by_hand(system.places(), degree)
    sources, sums = [], []
    for number, nought in enumerate(system.noughts()):
        for product in products_by_hand(system.places(), degree - nought.degree()):
            for sign in ((1, 1), (-1, 1)):
                sources.append((number, product, sign))
                sums.append(nought.times(Sum(FRACTIONS, [(product, sign)])))
    for bracket in brackets_by_hand(system.places(), degree):
        sources.append((bracket, None))
        sums.append(bracket_sum(bracket))
    for number, upper in enumerate(system.uppers()):
        for bracket in brackets_by_hand(system.places(), degree - upper.degree()):
            sources.append((bracket, number))
            sums.append(bracket_sum(bracket).times(upper))
    columns = [[dict(one.terms()).get(product, (0, 1)) for product in products] for one in sums]
    word, paper = balance(columns, [(-1, 1)] + [(0, 1)] * (len(products) - 1))
    if word == "weights":
        return ("worths", {product: FRACTIONS.over(weight, paper[0]) for product, weight in zip(products, paper)})
    terms, rows = [[] for _ in system.noughts()], []
    for source, share in zip(sources, paper):
        if len(source) == 3 and share[0]:
            terms[source[0]].append((source[1], FRACTIONS.times(share, source[2])))
        elif share[0]:
            rows.append((source[0], source[1], share))
    return ("showing", ([Sum(FRACTIONS, one) for one in terms], rows))


def swapped_rooms(many, rooms, one, other):
    """The order by which two rooms are called otherwise."""
    called = {one: other, other: one}
    return [guest * rooms + called.get(room, room) for guest in range(many) for room in range(rooms)]


def swapped_guests(many, rooms, one, other):
    """The order by which two guests are called otherwise."""
    called = {one: other, other: one}
    return [called.get(guest, guest) * rooms + room for guest in range(many) for room in range(rooms)]


def turned(places, by=1):
    """Each place becomes the next one, the last the first."""
    return [(at + by) % places for at in range(places)]


def alike_system(field, places, chance, uppers=False):
    """A system that has the likenesses of some orders, made by chance: all that they lead a wish to is wished."""
    orders = [list(range(places)) for _ in range(chance.randint(0, 2))]
    for order in orders:
        chance.shuffle(order)
    parts = []
    for _ in range(2):
        found = []
        for _ in range(chance.randint(0, 2)):
            new = [Sum(field, [(tuple(sorted(chance.sample(range(places), chance.randint(0, 2)))), field.made(chance.randint(1, 3)))
                               for _ in range(2)])]
            listed = []
            while new:
                wish = new.pop()
                if wish not in listed:
                    listed.append(wish)
                    new += [wish.renamed(order) for order in orders]
            found += listed * chance.randint(1, 2)
        chance.shuffle(found)
        parts.append(found)
    return System(field, places, parts[0], parts[1] if uppers and not field.prime() else []), orders


FRACTIONS = Field()
SOME_FIELDS = [Field(0), Field(2), Field(3), Field(7), Field(97)]
