"""Texts of every size: systems that no filling grants, and the showings that say so, written down."""

from falsesums.errors import NoField, NoShowing, NoSize
from falsesums.fields import Field
from falsesums.kinds import MOST_PLACES, is_whole
from falsesums.sums import Sum
from falsesums.systems import System

MOST_GUESTS = 7
MOST_ROOMS = 8
LEAST_RING = 3
LEAST_CHAIN = 2


def checked_field(field):
    """Refuses what is no field."""
    if not isinstance(field, Field):
        raise NoField("a text is over a field")


def checked_between(thing, least, most):
    """Refuses what is no whole number from the least one to the greatest one."""
    if not is_whole(thing) or not least <= thing <= most:
        raise NoSize(f"a size is a whole number from {least} to {most}")


def number_sum(field, top):
    """The sum of a whole number alone."""
    return Sum(field, [((), field.made(top))])


def places_sum(field, places, top):
    """The sum of these places and of a whole number."""
    return Sum(field, [((place,), field.made(1)) for place in places] + [((), field.made(top))])


def checked_guests(field, many, rooms):
    """Refuses what are no field, guests and rooms."""
    checked_field(field)
    checked_between(many, 1, MOST_GUESTS)
    checked_between(rooms, 1, MOST_ROOMS)


def guests(field, many, rooms):
    """Each guest is in one room, and each room has one guest; place guest times rooms and room."""
    checked_guests(field, many, rooms)
    of_guests = [places_sum(field, list(range(guest * rooms, (guest + 1) * rooms)), -1) for guest in range(many)]
    of_rooms = [places_sum(field, list(range(room, many * rooms, rooms)), -1) for room in range(rooms)]
    return System(field, many * rooms, of_guests + of_rooms)


def guests_showing(field, many, rooms):
    """A showing of degree 1: all guests less all rooms are what they differ by."""
    checked_guests(field, many, rooms)
    differ = field.made(rooms - many)
    if differ[0] == 0:
        raise NoShowing("as many guests as rooms are there, or the prime divides what they differ by")
    share = field.over(field.made(1), differ)
    one = Sum(field, [((), share)])
    return [one] * many + [one.scaled(field.made(-1))] * rooms


def checked_ring(field, signs):
    """Refuses what are no field but that of prime 2, and signs of which an odd number is -1."""
    checked_field(field)
    if field.prime() == 2:
        raise NoField("over the prime 2 there are no signs")
    if not isinstance(signs, list) or not LEAST_RING <= len(signs) <= MOST_PLACES:
        raise NoSize("signs are a list of three to sixty")
    if not all([is_whole(sign) and sign in (1, -1) for sign in signs]) or signs.count(-1) % 2 == 0:
        raise NoSize("signs are 1 and -1, and -1 an odd number of times")


def signed_place(field, place):
    """1 less twice the place: a place as a sign."""
    return Sum(field, [((), field.made(1)), ((place,), field.made(-2))])


def ring(field, signs):
    """Each place and the next one, as signs, should make the sign told."""
    checked_ring(field, signs)
    noughts = []
    for place, sign in enumerate(signs):
        both = signed_place(field, place).times(signed_place(field, (place + 1) % len(signs)))
        noughts.append(both.plus(number_sum(field, -sign)))
    return System(field, len(signs), noughts)


def ring_showing(field, signs):
    """A showing of degree 4.

    Going round from the first place each wish, times the signs of the first place and of its own, tells how
    the first place and the next one go together: in the end how the first goes with itself, and it is wrong.
    """
    checked_ring(field, signs)
    showing = []
    behind = field.made(1, 2)
    for place in range(len(signs) - 1, -1, -1):
        both = signed_place(field, 0).times(signed_place(field, place))
        showing.append(both.scaled(behind))
        behind = field.times(behind, field.made(signs[place]))
    return showing[::-1]


def is_edge(thing):
    """Whether thing is a tuple of two unlike knots."""
    if not isinstance(thing, tuple) or len(thing) != 2:
        return False
    return is_whole(thing[0]) and is_whole(thing[1]) and thing[0] >= 0 and thing[1] >= 0 and thing[0] != thing[1]


def checked_web(edges, odd):
    """The knots of the edges, rising, or the refusal of what are no edges and odd knots."""
    if not isinstance(edges, list) or not 1 <= len(edges) <= MOST_PLACES or not all([is_edge(edge) for edge in edges]):
        raise NoSize("edges are a list of one to sixty tuples of two unlike knots")
    knots = sorted({knot for edge in edges for knot in edge})
    if not isinstance(odd, list) or not all([is_whole(knot) and knot in knots for knot in odd]):
        raise NoSize("odd knots are a list of knots that stand in edges")
    if len(set(odd)) != len(odd) or len(odd) % 2 == 0:
        raise NoSize("odd knots are unlike, and of an odd number")
    return knots


def web(edges, odd):
    """Over the prime 2 the edges of each knot should be odd where the knot is, else even."""
    knots = checked_web(edges, odd)
    field = Field(2)
    noughts = [places_sum(field, [place for place, edge in enumerate(edges) if knot in edge], int(knot in odd))
               for knot in knots]
    return System(field, len(edges), noughts)


def web_showing(edges, odd):
    """A showing of degree 1: together all wishes have each edge twice, and 1 an odd number of times."""
    return [number_sum(Field(2), 1) for knot in checked_web(edges, odd)]


def checked_chain(field, places):
    """Refuses what are no field and places of a chain."""
    checked_field(field)
    checked_between(places, LEAST_CHAIN, MOST_PLACES)


def chain(field, places):
    """The first place is 1, with each place the next one is, and the last one is 0."""
    checked_chain(field, places)
    first, last = places_sum(field, [0], -1), places_sum(field, [places - 1], 0)
    links = [Sum(field, [((place,), field.made(1)), ((place, place + 1), field.made(-1))])
             for place in range(places - 1)]
    return System(field, places, [first] + links + [last])


def link_factors(field, first, last):
    """For each link between two places a sum: by these the links make the first place times 1 less the last.

    A place half way is taken: the first one times 1 less the last is 1 less the last times what leads half way,
    and the first times what leads on from there. So each halving adds but one to the degree.
    """
    if last - first == 1:
        return [number_sum(field, 1)]
    middle = (first + last) // 2
    lacked = Sum(field, [((), field.made(1)), ((last,), field.made(-1))])
    return ([factor.times(lacked) for factor in link_factors(field, first, middle)]
            + [factor.times(places_sum(field, [first], 0)) for factor in link_factors(field, middle, last)])


def chain_showing(field, places):
    """A showing, of a degree that grows by 1 where places double: the first place goes with the last, and is 0."""
    checked_chain(field, places)
    return ([number_sum(field, -1)] + link_factors(field, 0, places - 1) + [places_sum(field, [0], 0)])
