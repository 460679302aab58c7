"""Mixtures of fillings: weights that give worths, and the weights by which worths were mixed."""

from falsesums.degrees import all_products, checked_degree
from falsesums.errors import NoDegree, NoWeights, NoWorths
from falsesums.fields import common_bottom
from falsesums.fillings import is_filling, rows_of_bits
from falsesums.masks import bracket_worths
from falsesums.papers import lets_worths, whole_by_mask


def is_weights(system, thing):
    """Whether thing is a dict from fillings of the system to numbers, none nought, that come together to 1."""
    if not isinstance(thing, dict):
        return False
    field = system.field()
    for filling, number in thing.items():
        if not field.is_number(number) or number[0] == 0 or not is_filling(system, filling):
            return False
    bottom = common_bottom(list(thing.values()))
    return field.made(sum([bottom // number[1] * number[0] for number in thing.values()]), bottom) == field.made(1)


def mixed(system, degree, weights):
    """The worths of the degree that the fillings' own worths come to, mixed by the weights."""
    checked_degree(degree)
    if not is_weights(system, weights):
        raise NoWeights("fillings are mixed by weights")
    bottom = common_bottom(list(weights.values()))
    totals = {product: 0 for product in all_products(system.places(), degree)}
    for filling, number in weights.items():
        held = [place for place, bit in enumerate(filling) if bit]
        for chosen in all_products(len(held), degree):
            totals[tuple([held[at] for at in chosen])] += bottom // number[1] * number[0]
    return {product: system.field().made(total, bottom) for product, total in totals.items()}


def checked_top(system, degree):
    """Refuses a degree that is none, or is below the system's top degree."""
    if checked_degree(degree) < system.top():
        raise NoDegree("weights are told from the top degree on")


def weights_of(system, degree, worths):
    """The weights by which worths of the top degree, or a greater one, were mixed."""
    checked_top(system, degree)
    if not lets_worths(system, degree, worths):
        raise NoWorths("weights are told of worths of the degree")
    return mixing_weights(system, worths)


def mixing_weights(system, worths):
    """The weights by which worths of all products, which are such, were mixed."""
    wholes = whole_by_mask(worths)
    # The last place as the lowest bit: so fillings are numbered as they are sorted.
    found = bracket_worths(wholes, list(range(system.places() - 1, -1, -1)))
    weights = [system.field().made(number, wholes[0]) for number in found]
    return {filling: weight for filling, weight in zip(rows_of_bits(system.places()), weights) if weight[0]}
