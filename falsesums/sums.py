"""Sums of products of places, over a field."""

from falsesums.errors import NoFilling, NoNumber, NoOrder, NoSum, NoSums, Unlike
from falsesums.kinds import MOST_PLACES, is_order, is_product, is_row_of_bits
from falsesums.writing import shown_terms


def is_term(field, thing):
    """Whether thing is a tuple of a product and a number of the field."""
    return (isinstance(thing, tuple) and len(thing) == 2
            and is_product(thing[0]) and field.is_number(thing[1]))


def checked_terms(field, terms):
    """The terms handed in, or the refusal of what are none."""
    if terms is None:
        return []
    if not isinstance(terms, list):
        raise NoSum(None)
    for number, thing in enumerate(terms):
        if not is_term(field, thing):
            raise NoSum(number)
    return terms


def place_of_term(term):
    """By what terms are sorted: fewer places first."""
    return (len(term[0]), term[0])


def gathered(field, terms):
    """The terms with each product once and no nought, in the order in which they are told."""
    totals = {}
    for product, number in terms:
        if product in totals:
            number = field.plus(totals[product], number)
        totals[product] = number
    kept = [(product, number) for product, number in totals.items() if number[0] != 0]
    return sorted(kept, key=place_of_term)


def together(one, other):
    """The product of all places of either of two products."""
    if not one:
        return other
    if not other:
        return one
    return tuple(sorted(set(one + other)))


def place_names():
    """What the places are called where nobody gave them names."""
    return [f"x{place}" for place in range(MOST_PLACES)]


class Sum:
    """A sum of terms (product, number) over a field; it never changes."""

    def __init__(self, field, terms=None):
        self.its_field = field
        self.its_terms = gathered(field, checked_terms(field, terms))

    def __eq__(self, other):
        return isinstance(other, Sum) and self.its_field == other.its_field and self.its_terms == other.its_terms

    def __len__(self):
        return len(self.its_terms)

    def __str__(self):
        return str(shown_terms(place_names(), self.its_terms))

    def __repr__(self):
        return f"Sum({self.its_field.prime()}, '{str(self)}')"

    def field(self):
        """The field that the sum is over."""
        return self.its_field

    def terms(self):
        """The terms, those with fewer places first."""
        return list(self.its_terms)

    def degree(self):
        """The most places that a product has."""
        return len(self.its_terms[-1][0]) if self.its_terms else 0

    def reach(self):
        """How many places a list needs to have all of the sum's: one more than the greatest."""
        return max([product[-1] + 1 for product, number in self.its_terms if product], default=0)

    def is_like(self, thing):
        """Whether thing is a sum over the same field."""
        return isinstance(thing, Sum) and thing.its_field == self.its_field

    def plus(self, other):
        """The sum of both."""
        if not self.is_like(other):
            raise Unlike("only sums over one field are added")
        return built(self.its_field, self.its_terms + other.its_terms)

    def times(self, other):
        """The product of both."""
        if not self.is_like(other):
            raise Unlike("only sums over one field are multiplied")
        field = self.its_field
        return built(field, [(together(product, more), field.times(number, factor))
                             for product, number in self.its_terms
                             for more, factor in other.its_terms])

    def scaled(self, number):
        """The sum times a number of its field."""
        field = self.its_field
        if not field.is_number(number):
            raise NoNumber("a sum is multiplied by a number of its field")
        return built(field, [(product, field.times(factor, number)) for product, factor in self.its_terms])

    def worth(self, filling):
        """The number that the sum comes to at a filling."""
        if not is_row_of_bits(filling) or len(filling) < self.reach():
            raise NoFilling("a filling is a tuple of 0 and 1 that has all places")
        total = self.its_field.made(0)
        for product, number in self.its_terms:
            if all([filling[place] for place in product]):
                total = self.its_field.plus(total, number)
        return total

    def renamed(self, order):
        """The sum with place order[i] in the stead of place i."""
        if not is_order(order) or len(order) < self.reach():
            raise NoOrder("an order is a list of unlike places that has all places")
        return built(self.its_field, [(tuple(sorted([order[place] for place in product])), number)
                                      for product, number in self.its_terms])

    def put_in(self, sums):
        """What comes when sums[i] is put in for place i."""
        if not isinstance(sums, list) or not all([self.is_like(one) for one in sums]):
            raise NoSums("what is put in is a list of sums over the same field")
        if len(sums) < self.reach():
            raise NoSums("a sum is put in for each place")
        known = {(): Sum(self.its_field, [((), self.its_field.made(1))])}
        terms = []
        for product, number in self.its_terms:
            terms.extend(put_product(known, sums, product).scaled(number).its_terms)
        return built(self.its_field, terms)


def built(field, terms):
    """A sum of terms that were reckoned here, and so need not be looked at."""
    one = Sum(field)
    one.its_terms = gathered(field, terms)
    return one


def put_product(known, sums, product):
    """The product of the sums at these places; known keeps those of beginnings, which products share."""
    for many, place in enumerate(product):
        if product[:many + 1] not in known:
            known[product[:many + 1]] = known[product[:many]].times(sums[place])
    return known[product]
