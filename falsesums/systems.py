"""Systems of wishes: sums that should come to nought, and sums that should not be below nought."""

from falsesums.errors import NoOrder, NoSystem
from falsesums.fields import FRACTIONS, Field
from falsesums.kinds import MOST_PLACES, is_order, is_whole
from falsesums.sums import Sum

MOST_WISHES = 200


def is_wish(field, places, thing):
    """Whether thing is a sum over the field with only places below places."""
    return isinstance(thing, Sum) and thing.field() == field and thing.reach() <= places


def checked_wishes(field, places, part, wishes):
    """An own list of the wishes handed in as this part, or the refusal of what are none."""
    if not isinstance(wishes, list) or len(wishes) > MOST_WISHES:
        raise NoSystem(part, None)
    for number, wish in enumerate(wishes):
        if not is_wish(field, places, wish):
            raise NoSystem(part, number)
    return list(wishes)


def checked_uppers(field, places, uppers):
    """An own list of the uppers handed in; over a prime nothing is below nought, so none is there."""
    if uppers is None:
        return []
    if isinstance(uppers, list) and uppers and field.prime() != FRACTIONS:
        raise NoSystem("uppers", None)
    return checked_wishes(field, places, "uppers", uppers)


class System:
    """Wishes over a field about places; it never changes."""

    def __init__(self, field, places, noughts, uppers=None):
        if not isinstance(field, Field):
            raise NoSystem("field", None)
        if not is_whole(places) or not 1 <= places <= MOST_PLACES:
            raise NoSystem("places", None)
        self.its_field = field
        self.its_places = places
        self.its_noughts = checked_wishes(field, places, "noughts", noughts)
        self.its_uppers = checked_uppers(field, places, uppers)

    def __eq__(self, other):
        return (isinstance(other, System) and self.its_field == other.its_field
                and self.its_places == other.its_places and self.its_noughts == other.its_noughts
                and self.its_uppers == other.its_uppers)

    def __len__(self):
        return len(self.its_noughts + self.its_uppers)

    def field(self):
        """The field that all wishes are over."""
        return self.its_field

    def places(self):
        """How many places the system has."""
        return self.its_places

    def noughts(self):
        """The sums that should come to nought."""
        return list(self.its_noughts)

    def uppers(self):
        """The sums that should not be below nought."""
        return list(self.its_uppers)

    def top(self):
        """The top degree: the places and the greatest degree of a wish together."""
        return self.its_places + max([wish.degree() for wish in self.its_noughts + self.its_uppers], default=0)

    def renamed(self, order):
        """The system with place order[i] in the stead of place i."""
        if not is_order(order) or sorted(order) != list(range(self.its_places)):
            raise NoOrder("an order of a system has all its places")
        return System(self.its_field, self.its_places,
                      [nought.renamed(order) for nought in self.its_noughts],
                      [upper.renamed(order) for upper in self.its_uppers])
