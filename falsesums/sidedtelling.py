"""Which of the two papers of the second kind is there at a degree, and that paper; least sided degrees, and weights."""

from falsesums.answers import exact_answer
from falsesums.balances import stepped
from falsesums.degrees import all_products, many_brackets
from falsesums.errors import NoWorths, TooMany
from falsesums.fields import lowest
from falsesums.fillings import MOST_FILLED_PLACES, fillings
from falsesums.leasts import least_by
from falsesums.lifting import put_into
from falsesums.masks import mask_of
from falsesums.mixtures import checked_top, mixing_weights
from falsesums.papers import worths_of
from falsesums.sided import checked_fractions, lets_sided_worths, sided_of
from falsesums.telling import checked_size, multiples, showing_of, whole_form

MOST_TOLD_BRACKETS = 1500


def checked_sided_size(system, degree):
    """Refuses primes, a degree that is none, and one at which there is too much to be told."""
    checked_fractions(system.field())
    checked_size(system, degree)
    sizes = [degree] + [degree - upper.degree() for upper in system.uppers()]
    if sum([many_brackets(system.places(), size) for size in sizes]) > MOST_TOLD_BRACKETS:
        raise TooMany("sided papers are told of at most 1500 brackets")


def full_brackets(places, size):
    """The brackets of just this size, or of all places: each smaller one is a sum of these."""
    found = []
    for product in all_products(places, size):
        if len(product) == min(size, places):
            found.extend(brackets_over(product))
    return found


def brackets_over(product):
    """The brackets that hold or lack each of these places."""
    found = [((), ())]
    for place in product:
        holding = [(held + (place,), lacked) for held, lacked in found]
        found = holding + [(held, lacked + (place,)) for held, lacked in found]
    return found


def bracket_masks(bracket):
    """The bracket multiplied out: tuples of a mask and 1 or -1."""
    held, lacked = bracket
    found = [(mask_of(held), 1)]
    for place in lacked:
        found = found + [(mask | 1 << place, -sign) for mask, sign in found]
    return found


def bracket_column(bracket, terms, column_of):
    """The bracket times whole terms, as tuples (column, whole number)."""
    totals = {}
    for mask, sign in bracket_masks(bracket):
        for more, number in terms:
            column = column_of[mask | more]
            totals[column] = totals.get(column, 0) + sign * number
    return [(column, number) for column, number in totals.items() if number]


def sided_columns(system, degree, products):
    """A tuple of lists: tuples (bracket, number of an upper or None, what multiplied it), and their columns."""
    column_of = {mask_of(product): column for column, product in enumerate(products)}
    wishes = [(None, degree, [(0, 1)], (1, 1))]
    for number, upper in enumerate(system.uppers()):
        terms, factor = whole_form(upper)
        wishes.append((number, degree - upper.degree(), terms, factor))
    sources, columns = [], []
    for number, size, terms, factor in wishes:
        for bracket in full_brackets(system.places(), size):
            sources.append((bracket, number, factor))
            columns.append(bracket_column(bracket, terms, column_of))
    return (sources, columns)


def balanced_sides(rows, chosen, columns, size):
    """Whether -1 in the first column is made of rows, of either sign, and of columns, from nought on.

    Told is a tuple (`shares`, (those of rows, those of columns), dicts by their numbers), or (`worths`, a number
    for each place of a row). At first only the chosen rows are looked at: mostly the others are sums of them.
    """
    while True:
        both = [rows[number] for number in chosen] + columns
        word, paper = stepped(both, [(0, -1)], size, len(chosen))
        if word == "shares":
            of_rows = {chosen[at]: share for at, share in paper.items() if at < len(chosen)}
            return (word, (of_rows, {at - len(chosen): share for at, share in paper.items() if at >= len(chosen)}))
        tops = [top for top, bottom in paper]
        missed = [number for number, row in enumerate(rows) if put_into(row, tops)]
        if not missed:
            return ("worths", [lowest(top, tops[0]) for top in tops])
        chosen = chosen + missed


def told_sided(system, degree):
    """A tuple (`showing`, a sided showing of the degree), or (`worths`, sided worths of it)."""
    checked_sided_size(system, degree)
    if system.places() <= MOST_FILLED_PLACES:
        found = fillings(system, True)
        if found:
            return ("worths", worths_of(system, degree, found[0]))
    # A showing of a lesser degree is one of this degree, too, and is found much sooner.
    for lesser in range(min(degree, system.top())):
        word, paper = found_sided(system, lesser)
        if word == "showing":
            return (word, paper)
    return found_sided(system, degree)


def found_sided(system, degree):
    """As told_sided tells, found at just this degree."""
    checked_sided_size(system, degree)
    products = all_products(system.places(), degree)
    pairs, rows = multiples(system, degree, products)
    word, paper, chosen = exact_answer(rows, len(products))
    if word == "made":
        return ("showing", sided_of(showing_of(system, pairs, paper)))
    sources, columns = sided_columns(system, degree, products)
    word, paper = balanced_sides(rows, chosen, columns, len(products))
    if word == "worths":
        return (word, dict(zip(products, paper)))
    of_rows, of_columns = paper
    return ("showing", (showing_of(system, pairs, of_rows), sided_rows(system, sources, of_columns)))


def sided_rows(system, sources, shares):
    """The rows (bracket, number, share) in which the sources have these shares, a dict by their numbers."""
    found = []
    for at in sorted(shares):
        bracket, number, factor = sources[at]
        if shares[at][0]:
            found.append((bracket, number, system.field().times(shares[at], factor)))
    return found


def least_sided(system):
    """As leasts.least tells, with sided papers and all round fillings."""
    checked_fractions(system.field())
    return least_by(system, fillings(system, True), found_sided)


def sided_weights(system, degree, worths):
    """The weights, all above nought, by which sided worths of the top degree, or a greater one, were mixed."""
    checked_fractions(system.field())
    checked_top(system, degree)
    if not lets_sided_worths(system, degree, worths):
        raise NoWorths("weights are told of sided worths of the degree")
    return mixing_weights(system, worths)
