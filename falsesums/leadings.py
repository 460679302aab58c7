"""Leadings: sums put in for the places of a system lead it into another, and papers along with it."""

from falsesums.degrees import MOST_DEGREE, all_products, checked_degree
from falsesums.errors import NoDegree, NoFilling, NoLeading, NoShowing, NoWorths, Unlike
from falsesums.fillings import is_filling
from falsesums.masks import multiplied_out, without_noughts
from falsesums.papers import lets_showing, lets_worths, worth_of
from falsesums.sums import Sum, put_product
from falsesums.systems import is_wish


def checked_fields(one, other):
    """Refuses systems that are not over the same field."""
    if one.field() != other.field():
        raise Unlike("a system is led into one over the same field")


def are_sums(system, many, thing):
    """Whether thing is a list of so many sums over the system's field with only its places."""
    if not isinstance(thing, list) or len(thing) != many:
        return False
    return all([is_wish(system.field(), system.places(), one) for one in thing])


def comes_to(field, pairs, one):
    """Whether all pairs of sums, multiplied and added up, come to the sum."""
    less = Sum(field, [((), field.made(-1))])
    return not without_noughts(multiplied_out(pairs + [(less, one)])[0], field.prime())


def is_leading(one, other, thing):
    """Whether thing is a leading of the system one into the system other."""
    checked_fields(one, other)
    if not isinstance(thing, tuple) or len(thing) != 2:
        return False
    sums, papers = thing
    field, wishes = other.field(), other.noughts()
    if not are_sums(other, one.places(), sums) or not all([comes_to(field, [(put, put)], put) for put in sums]):
        return False
    if not isinstance(papers, list) or len(papers) != len(one.noughts()):
        return False
    if not all([are_sums(other, len(wishes), paper) for paper in papers]):
        return False
    return all([comes_to(field, list(zip(paper, wishes)), nought.put_in(sums))
                for paper, nought in zip(papers, one.noughts())])


def checked_leading(one, other, leading):
    """The sums and papers of a leading of one into other, or the refusal of what is none."""
    if not is_leading(one, other, leading):
        raise NoLeading("what is handed in does not lead the one system into the other")
    return leading


def led_filling(one, other, leading, filling):
    """The filling of one to which a filling of other leads."""
    sums, papers = checked_leading(one, other, leading)
    if not is_filling(other, filling):
        raise NoFilling("a filling of the other system leads to one")
    return tuple([put.worth(filling)[0] for put in sums])


def led_degree(one, other, leading, degree):
    """The leading's degree at a degree."""
    sums, papers = checked_leading(one, other, leading)
    checked_degree(degree)
    growth = max([put.degree() for put in sums] + [1])
    found = [degree * growth]
    for nought, paper in zip(one.noughts(), papers):
        if nought.degree() <= degree:
            room = (degree - nought.degree()) * growth
            found.extend([room + factor.degree() + wish.degree()
                          for factor, wish in zip(paper, other.noughts()) if len(factor)])
    if max(found) > MOST_DEGREE:
        raise NoDegree("the leading's degree would be above 300")
    return max(found)


def added_products(field, pairs):
    """All pairs of sums, multiplied and added up."""
    terms = []
    for one, other in pairs:
        terms.extend(one.times(other).terms())
    return Sum(field, terms)


def carried(one, other, leading, degree, showing):
    """The showing of other, of the leading's degree, to which a showing of one of the degree is carried."""
    led_degree(one, other, leading, degree)
    if not lets_showing(one, degree, showing):
        raise NoShowing("a showing of the one system is carried along")
    sums, papers = leading
    led = [factor.put_in(sums) for factor in showing]
    return beside(other, led, papers)


def beside(other, led, papers):
    """For each nought of other the led sums, each times the sum beside that nought in its paper, together."""
    return [added_products(other.field(), [(put, paper[number]) for put, paper in zip(led, papers)])
            for number in range(len(other.noughts()))]


def carried_back(one, other, leading, degree, worths):
    """The worths of one of the degree to which worths of other, of the leading's degree, are carried back."""
    led = led_degree(one, other, leading, degree)
    if not lets_worths(other, led, worths):
        raise NoWorths("worths of the other system are carried back")
    field = one.field()
    known = {(): Sum(field, [((), field.made(1))])}
    return {product: worth_of(worths, put_product(known, leading[0], product))
            for product in all_products(one.places(), degree)}


def joined(one, other, third, first, second):
    """The leading of one into the third system that two leadings, one behind the other, make."""
    checked_fields(one, other)
    checked_fields(other, third)
    first_sums, first_papers = checked_leading(one, other, first)
    second_sums, second_papers = checked_leading(other, third, second)
    papers = [beside(third, [factor.put_in(second_sums) for factor in paper], second_papers) for paper in first_papers]
    return ([put.put_in(second_sums) for put in first_sums], papers)
