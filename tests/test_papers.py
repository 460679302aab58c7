"""Papers of the first kind (points 12 to 14, and 2 and 3)."""

import copy
import unittest

from falsesums.errors import NoDegree, NoFilling, NoWorth, TooMany
from falsesums.fields import Field
from falsesums.fillings import fillings
from falsesums.papers import cut, lets_showing, lets_worths, worth_of, worths_of
from falsesums.sums import Sum
from falsesums.systems import System
from tests.helper import (FRACTIONS, SOME_FIELDS, Stubborn, all_rows, constant, guests, linear, number_of,
                          odd_things, place, products_by_hand, seeded, showing_by_hand, some_number, some_sum,
                          some_system, worths_by_hand)

ONE = (1, 1)
MINUS = (-1, 1)
TWO = Field(2)
SEVEN = Field(7)
NO_DEGREES = [-1, 301, 10 ** 40, -(10 ** 40), 1.0, 0.5] + odd_things()


def contradiction(field):
    """Place 0 should be 0, and 1."""
    return System(field, 2, [place(0, field), place(0, field).plus(constant(field, -1))])


def contradiction_showing(field):
    return [constant(field, 1), constant(field, -1)]


def triangle(field):
    """No two of three places are 1, but two are: a showing of degree 2 needs products."""
    return System(field, 3, [place(0, field).times(place(1, field)), place(0, field).plus(constant(field, -1)),
                             place(1, field).plus(constant(field, -1))])


def triangle_showing(field):
    # x0*x1 - x1*(x0 - 1) - (x1 - 1) = 1
    return [constant(field, 1), place(1, field).scaled(field.made(-1)), constant(field, -1)]


class Showings(unittest.TestCase):
    def test_at_each_degree(self):
        for field in SOME_FIELDS:
            for system, showing, least in ((contradiction(field), contradiction_showing(field), 1),
                                           (triangle(field), triangle_showing(field), 2)):
                for degree in (0, 1, 2, 3, 4, 17, 299, 300):
                    with self.subTest(field=field, degree=degree):
                        self.assertIs(lets_showing(system, degree, showing), degree >= least)

    def test_by_hand(self):
        chance = seeded(12)
        let_by = 0
        for field in SOME_FIELDS:
            for _ in range(60):
                # One multiplier is made so that all come to 1, or now and then not quite.
                first = some_sum(field, 3, 3, chance)
                multiplier = some_sum(field, 3, 2, chance)
                rest = constant(field, 1).plus(first.times(multiplier).scaled(field.made(-1)))
                wrong = rest if chance.random() < 0.7 else rest.plus(some_sum(field, 3, 1, chance))
                system = System(field, 3, [first, wrong])
                thing = [multiplier, constant(field, 1)]
                for degree in range(8):
                    wanted = showing_by_hand(system, degree, thing)
                    let_by += wanted
                    self.assertIs(lets_showing(system, degree, thing), wanted)
        self.assertGreater(let_by, 100)

    def test_fractions(self):
        system = System(FRACTIONS, 1, [Sum(FRACTIONS, [((), (-1, 3)), ((0,), (5, 7))])])
        # At 0 it is -1/3, at 1 it is 8/21: the multiplier is -3 and 21/8 there.
        showing = [Sum(FRACTIONS, [((), (-3, 1)), ((0,), (45, 8))])]
        self.assertIs(lets_showing(system, 2, showing), True)
        self.assertIs(lets_showing(system, 1, showing), False)
        self.assertIs(lets_showing(system, 2, [Sum(FRACTIONS, [((), (-3, 1)), ((0,), (45, 7))])]), False)

    def test_too_short_and_too_long(self):
        for field in SOME_FIELDS:
            system, showing = contradiction(field), contradiction_showing(field)
            for thing in (showing[:1], [], showing + [Sum(field)], showing + showing):
                self.assertIs(lets_showing(system, 5, thing), False)

    def test_a_sum_over_another_field(self):
        system, showing = contradiction(SEVEN), contradiction_showing(SEVEN)
        for other in (TWO, FRACTIONS, Field(97)):
            for at in (0, 1):
                for wrong in (constant(other, 1), Sum(other)):
                    thing = list(showing)
                    thing[at] = wrong
                    self.assertIs(lets_showing(system, 5, thing), False)
        self.assertIs(lets_showing(System(SEVEN, 1, [Sum(SEVEN)] + contradiction(SEVEN).noughts()), 5,
                                   [Sum(TWO)] + showing), False)

    def test_a_place_that_the_system_has_not(self):
        for field in SOME_FIELDS:
            for many, wanted in ((1, False), (2, True), (3, True)):
                system = System(field, many, [place(0, field), place(0, field).plus(constant(field, -1)), Sum(field)])
                # The last sum is times nought, so it does not matter but for its places.
                thing = contradiction_showing(field) + [place(1, field)]
                self.assertIs(lets_showing(system, 3, thing), wanted)

    def test_a_sum_beside_a_nought_sum_counts_with_its_degree(self):
        system = System(FRACTIONS, 3, [Sum(FRACTIONS), constant(FRACTIONS, 2)])
        half = constant(FRACTIONS, 1, 2)
        three = Sum(FRACTIONS, [((0, 1, 2), ONE)])
        self.assertIs(lets_showing(system, 3, [three, half]), True)
        self.assertIs(lets_showing(system, 2, [three, half]), False)
        self.assertIs(lets_showing(system, 0, [Sum(FRACTIONS), half]), True)

    def test_a_degree_above_the_degree(self):
        field = FRACTIONS
        # Both have x0 too much, which cancels out: the degree is still looked at.
        noughts = [place(0), place(0).plus(constant(field, -1))]
        more = place(1).times(linear(field, [0], 1))
        less = place(1).times(place(0)).scaled(MINUS)
        thing = [constant(field, 1).plus(more), constant(field, -1).plus(less)]
        system = System(field, 2, noughts)
        self.assertIs(lets_showing(system, 3, thing), True)
        self.assertIs(lets_showing(system, 2, thing), False)
        self.assertIs(lets_showing(system, 1, contradiction_showing(field)), True)

    def test_nought_beside_a_wish_above_the_degree(self):
        for field in SOME_FIELDS:
            tall = Sum(field, [((0, 1, 2, 3), ONE)])
            noughts = [tall, place(0, field), place(0, field).plus(constant(field, -1)), tall]
            thing = [Sum(field)] + contradiction_showing(field) + [Sum(field)]
            self.assertIs(lets_showing(System(field, 4, noughts), 1, thing), True)
            self.assertIs(lets_showing(System(field, 4, noughts), 0, thing), False)

    def test_one_sum_changed(self):
        for field in SOME_FIELDS:
            system, showing = triangle(field), triangle_showing(field)
            for at in range(3):
                for change in (constant(field, 1), place(2, field), linear(field, [2], 1)):
                    thing = list(showing)
                    thing[at] = thing[at].plus(change)
                    self.assertIs(lets_showing(system, 9, thing), False)

    def test_what_comes_to_another_number(self):
        self.assertIs(lets_showing(contradiction(SEVEN), 1, [constant(SEVEN, 2), constant(SEVEN, -2)]), False)
        self.assertIs(lets_showing(contradiction(FRACTIONS), 1, [constant(FRACTIONS, 2), constant(FRACTIONS, -2)]),
                      False)
        self.assertIs(lets_showing(contradiction(FRACTIONS), 1, [constant(FRACTIONS, -1), constant(FRACTIONS, 1)]),
                      False)
        self.assertIs(lets_showing(contradiction(FRACTIONS), 1, [Sum(FRACTIONS), Sum(FRACTIONS)]), False)

    def test_anything_else(self):
        for field in SOME_FIELDS:
            good = contradiction_showing(field)
            for thing in odd_things() + [0, 1, tuple(good), {0: good[0], 1: good[1]}, good[0], [good[0], None],
                                         [Stubborn(), good[1]], [good[0], 1], [good[0].terms(), good[1].terms()],
                                         [good], "showing", ("showing", good)]:
                with self.subTest(thing=repr(thing)):
                    self.assertIs(lets_showing(contradiction(field), 2, thing), False)

    def test_no_noughts(self):
        for field in SOME_FIELDS:
            for degree in (0, 1, 300):
                self.assertIs(lets_showing(System(field, 3, []), degree, []), False)
                self.assertIs(lets_showing(System(field, 3, []), degree, [constant(field, 1)]), False)

    def test_where_a_filling_is_there_none_is(self):
        chance = seeded(120)
        for field in SOME_FIELDS:
            for _ in range(40):
                system = some_system(field, chance)
                if fillings(system):
                    for degree in (0, 2, 5, 300):
                        thing = [some_sum(field, system.places(), 3, chance) for _ in system.noughts()]
                        self.assertIs(lets_showing(system, degree, thing), False)

    def test_no_degree(self):
        for degree in NO_DEGREES:
            for thing in (contradiction_showing(FRACTIONS), None, Stubborn()):
                with self.subTest(degree=repr(degree)), self.assertRaises(NoDegree):
                    lets_showing(contradiction(FRACTIONS), degree, thing)

    def test_by_name_in_any_order(self):
        self.assertIs(lets_showing(thing=contradiction_showing(SEVEN), degree=1, system=contradiction(SEVEN)), True)

    def test_long_sums(self):
        # 1 less each of nine places, multiplied, and each place: 512 terms, times as many.
        field = FRACTIONS
        whole = constant(field, 1)
        for at in range(9):
            whole = whole.times(linear(field, [at], 1).scaled(MINUS))
        system = System(field, 9, [whole, constant(field, 1).plus(whole.scaled(MINUS))])
        self.assertIs(lets_showing(system, 18, [whole, constant(field, 1)]), True)
        self.assertIs(lets_showing(system, 17, [whole, constant(field, 1)]), False)

    def test_many_unlike_bottoms(self):
        numbers = [(10 ** 59 + at, 10 ** 58 + 7 * at) for at in range(40)]
        numbers = [FRACTIONS.made(top, bottom) for top, bottom in numbers]
        noughts = [constant(FRACTIONS, top, bottom) for top, bottom in numbers]
        showing = [constant(FRACTIONS, bottom, top * 40) for top, bottom in numbers]
        system = System(FRACTIONS, 1, noughts)
        self.assertIs(lets_showing(system, 0, showing), True)
        showing[3] = showing[3].plus(constant(FRACTIONS, 1, 10 ** 60))
        self.assertIs(lets_showing(system, 0, showing), False)


def middle():
    """Of three places just one and a half are 1: worths are there at small degrees."""
    return System(FRACTIONS, 3, [Sum(FRACTIONS, [((), (-3, 2)), ((0,), ONE), ((1,), ONE), ((2,), ONE)])])


def middle_worths(degree):
    # By the wish a place is worth 1/2, then two are 1/4 * ... each found from the one ahead.
    known = [(1, 1), (1, 2), (1, 8), (-1, 16)]
    return {product: known[len(product)] for product in products_by_hand(3, degree)}


class Worths(unittest.TestCase):
    def test_at_each_degree(self):
        for degree, wanted in ((0, True), (1, True), (2, True), (3, True), (4, False), (5, False), (300, False)):
            with self.subTest(degree=degree):
                self.assertIs(lets_worths(middle(), degree, middle_worths(degree)), wanted)

    def test_of_fillings_also_above_the_number_of_places(self):
        for field in SOME_FIELDS:
            system = System(field, 3, [linear(field, [0, 1], 1)])
            for degree in (0, 1, 2, 3, 4, 7, 300):
                worths = {product: ONE if product in ((), (0,), (2,), (0, 2)) else (0, 1)
                          for product in products_by_hand(3, degree)}
                self.assertIs(lets_worths(system, degree, worths), True)

    def test_by_hand(self):
        chance = seeded(13)
        let_by = 0
        for field in SOME_FIELDS:
            for _ in range(60):
                places, degree = chance.randint(1, 3), chance.randint(0, 4)
                thing = {product: some_number(field, chance) for product in products_by_hand(places, degree)}
                thing[()] = ONE
                # A wish that is worth 0 by these worths, at least by itself.
                wish = some_sum(field, places, 3, chance)
                if wish.degree() <= degree:
                    total = (0, 1)
                    for product, number in wish.terms():
                        total = field.plus(total, field.times(number, thing[product]))
                    wish = wish.plus(Sum(field, [((), field.minus((0, 1), total))]))
                system = System(field, places, [wish])
                wanted = worths_by_hand(system, degree, thing)
                let_by += wanted
                self.assertIs(lets_worths(system, degree, thing), wanted)
        self.assertGreater(let_by, 60)

    def test_one_key_too_few_and_too_many(self):
        for field in SOME_FIELDS:
            system = System(field, 3, [place(0, field)])
            for degree in (1, 2, 3, 4):
                good = {product: ONE if not product else (0, 1) for product in products_by_hand(3, degree)}
                self.assertIs(lets_worths(system, degree, good), True)
                for product in good:
                    thing = dict(good)
                    del thing[product]
                    self.assertIs(lets_worths(system, degree, thing), False)
                    for other in ((0, 1, 2, 3), (3,), (1, 0), (0, 0), "0", 0, None, frozenset(), (0, 3), (2, True)):
                        self.assertIs(lets_worths(system, degree, good | {other: (0, 1)}), False)
                        self.assertIs(lets_worths(system, degree, thing | {other: (0, 1)}), False)
                self.assertIs(lets_worths(system, degree + 1, good), degree >= 3)
                self.assertIs(lets_worths(system, degree - 1, good), degree > 3)

    def test_as_many_keys_but_one_with_too_many_places(self):
        for field in SOME_FIELDS:
            for noughts in ([], [place(0, field)]):
                system = System(field, 3, noughts)
                for degree in (0, 1, 2):
                    good = {product: ONE if not product else (0, 1) for product in products_by_hand(3, degree)}
                    for product in list(good)[1:]:
                        thing = dict(good)
                        del thing[product]
                        thing[(0, 1, 2)] = (0, 1)
                        self.assertIs(lets_worths(system, degree, thing), False)

    def test_a_key_that_is_a_truth(self):
        good = {(): ONE, (0,): (0, 1), (1,): (0, 1)}
        self.assertIs(lets_worths(System(SEVEN, 2, []), 1, good), True)
        self.assertIs(lets_worths(System(SEVEN, 2, []), 1, {(): ONE, (False,): (0, 1), (1,): (0, 1)}), False)
        self.assertIs(lets_worths(System(SEVEN, 2, []), 1, {(): ONE, (0,): (0, 1), (True,): (0, 1)}), False)

    def test_what_is_no_number(self):
        for field in SOME_FIELDS:
            wrong = odd_things() + [0, 1, (1, 0), (0, 2), (2, 2), (True, 1), (1, True), [0, 1], (-1, 0), (0, 1, 1)]
            wrong += [(field.prime(), 1), (-1, 1), (1, 2)] if field.prime() else [(1, -1), (2, 4)]
            for number in wrong:
                for product in ((), (0,), (0, 1)):
                    thing = {(): ONE, (0,): (0, 1), (1,): (0, 1), (0, 1): (0, 1)}
                    thing[product] = number
                    with self.subTest(field=field, number=repr(number), product=product):
                        self.assertIs(lets_worths(System(field, 2, []), 2, thing), False)

    def test_the_empty_product_is_worth_one(self):
        for field in SOME_FIELDS:
            for top in (0, 2, -1, 5):
                number = number_of(field, top)
                thing = {(): number, (0,): (0, 1)}
                self.assertIs(lets_worths(System(field, 1, []), 1, thing), number == ONE)

    def test_one_worth_changed(self):
        for degree in range(4):
            for product in products_by_hand(3, degree):
                thing = middle_worths(degree)
                thing[product] = FRACTIONS.plus(thing[product], (1, 10 ** 30))
                self.assertIs(lets_worths(middle(), degree, thing), False)

    def test_each_nought_and_each_product_counts(self):
        for field in SOME_FIELDS:
            # By these worths place 0 is 1, and others 0, so a wish's multiple is worth something at one product alone.
            for degree in (2, 3):
                for product in products_by_hand(3, degree - 1):
                    for at in range(3):
                        good = {one: ONE if not one else (0, 1) for one in products_by_hand(3, degree)}
                        noughts = [Sum(field)] * 3
                        noughts[at] = place(0, field)
                        system = System(field, 3, noughts)
                        self.assertIs(lets_worths(system, degree, good), True)
                        good[tuple(sorted({0, *product}))] = ONE
                        self.assertIs(lets_worths(system, degree, good), False)

    def test_wishes_above_the_degree_do_not_count(self):
        for field in SOME_FIELDS:
            system = System(field, 3, [Sum(field, [((0, 1, 2), ONE), ((), ONE)])])
            for degree in (0, 1, 2):
                thing = {product: ONE for product in products_by_hand(3, degree)}
                self.assertIs(lets_worths(system, degree, thing), True)
            thing = {product: ONE for product in products_by_hand(3, 3)}
            self.assertIs(lets_worths(system, 3, thing), field == TWO)

    def test_anything_else(self):
        for thing in odd_things() + [0, [((), ONE)], {(): ONE}.items(), ("worths", {(): ONE}), Sum(FRACTIONS)]:
            for degree in (0, 1, 300):
                with self.subTest(thing=repr(thing), degree=degree):
                    self.assertIs(lets_worths(System(FRACTIONS, 1, []), degree, thing), False)

    def test_many_places_and_a_great_degree(self):
        # There would be more products than anyone could look at: it is told all the same.
        system = System(TWO, 60, [place(0, TWO)])
        self.assertIs(lets_worths(system, 300, {(): ONE}), False)
        self.assertIs(lets_worths(system, 30, {(): ONE}), False)
        self.assertIs(lets_worths(system, 0, {(): ONE}), True)

    def test_no_degree(self):
        for degree in NO_DEGREES:
            for thing in ({(): ONE}, None, Stubborn()):
                with self.subTest(degree=repr(degree)), self.assertRaises(NoDegree):
                    lets_worths(System(FRACTIONS, 1, []), degree, thing)

    def test_by_name_in_any_order(self):
        self.assertIs(lets_worths(thing=middle_worths(2), degree=2, system=middle()), True)

    def test_what_is_handed_in_stays(self):
        for degree in (2, 4):
            thing = middle_worths(degree)
            kept = copy.deepcopy(thing)
            lets_worths(middle(), degree, thing)
            self.assertEqual(list(thing.items()), list(kept.items()))


class WorthOf(unittest.TestCase):
    def test_plainly(self):
        worths = middle_worths(2)
        self.assertEqual(worth_of(worths, middle().noughts()[0]), (0, 1))
        self.assertEqual(worth_of(worths, Sum(FRACTIONS, [((), (1, 3)), ((0,), (2, 1)), ((1, 2), (-1, 3))])), (31, 24))
        self.assertEqual(worth_of(worths, Sum(FRACTIONS)), (0, 1))
        self.assertEqual(worth_of(worths, constant(FRACTIONS, 5, 7)), (5, 7))
        self.assertEqual(worth_of({}, Sum(FRACTIONS)), (0, 1))

    def test_over_primes(self):
        worths = {(): ONE, (0,): (5, 1), (1,): (3, 1), (0, 1): (6, 1)}
        self.assertEqual(worth_of(worths, Sum(SEVEN, [((), (2, 1)), ((0,), (4, 1)), ((0, 1), (3, 1))])), (5, 1))
        self.assertEqual(worth_of(worths, Sum(SEVEN)), (0, 1))

    def test_of_fillings_as_at_the_filling(self):
        chance = seeded(130)
        for field in SOME_FIELDS:
            system = System(field, 4, [])
            for row in all_rows(4):
                one = some_sum(field, 4, 5, chance)
                self.assertEqual(worth_of(worths_of(system, 4, row), one), one.worth(row))

    def test_no_worth(self):
        worths = middle_worths(1)
        for terms, product in (([((0, 1), ONE)], (0, 1)), ([((), ONE), ((0, 1), ONE), ((0, 1, 2), ONE)], (0, 1)),
                               ([((1, 2), ONE), ((0, 2), ONE)], (0, 2)), ([((3,), ONE), ((0, 1), ONE)], (3,)),
                               ([((0, 1, 2), ONE), ((0,), ONE)], (0, 1, 2))):
            with self.assertRaises(NoWorth) as caught:
                worth_of(worths, Sum(FRACTIONS, terms))
            self.assertEqual(caught.exception.product, product)
        self.assertEqual(worths, middle_worths(1))

    def test_by_name_in_any_order(self):
        self.assertEqual(worth_of(one=place(0), worths=middle_worths(1)), (1, 2))


class Cut(unittest.TestCase):
    def test_to_each_degree(self):
        for degree in range(5):
            worths = middle_worths(3)
            told = cut(worths, degree)
            self.assertEqual(told, middle_worths(min(degree, 3)))
            self.assertIs(lets_worths(middle(), min(degree, 3), told), True)

    def test_it_is_a_new_one(self):
        for degree in (1, 3, 4, 300):
            worths = middle_worths(3)
            told = cut(worths, degree)
            self.assertIsNot(told, worths)
            told.clear()
            self.assertEqual(worths, middle_worths(3))
            self.assertEqual(cut(worths, degree), middle_worths(min(degree, 3)))
            told = cut(worths, degree)
            worths.clear()
            self.assertEqual(told, middle_worths(min(degree, 3)))

    def test_cut_worths_are_worths(self):
        chance = seeded(131)
        for field in SOME_FIELDS:
            for _ in range(20):
                system = some_system(field, chance)
                for filling in fillings(system)[:2]:
                    worths = worths_of(system, 5, filling)
                    for degree in range(7):
                        self.assertIs(lets_worths(system, degree, cut(worths, degree)), True)

    def test_no_degree(self):
        for degree in NO_DEGREES:
            with self.subTest(degree=repr(degree)), self.assertRaises(NoDegree):
                cut(middle_worths(1), degree)

    def test_by_name_in_any_order(self):
        self.assertEqual(cut(degree=0, worths=middle_worths(2)), {(): ONE})


class WorthsOf(unittest.TestCase):
    def test_plainly(self):
        system = System(SEVEN, 3, [linear(SEVEN, [0, 1, 2], 2)])
        self.assertEqual(worths_of(system, 2, (1, 0, 1)),
                         {(): ONE, (0,): ONE, (1,): (0, 1), (2,): ONE, (0, 1): (0, 1), (0, 2): ONE, (1, 2): (0, 1)})
        self.assertEqual(worths_of(system, 0, (1, 0, 1)), {(): ONE})

    def test_they_are_worths_at_each_degree(self):
        chance = seeded(14)
        for field in SOME_FIELDS:
            for _ in range(25):
                system = some_system(field, chance)
                for filling in fillings(system):
                    for degree in (0, 1, 2, 3, 5, 300):
                        worths = worths_of(system, degree, filling)
                        self.assertIs(worths_by_hand(system, degree, worths), True)
                        self.assertIs(lets_worths(system, degree, worths), True)

    def test_no_filling(self):
        for field in SOME_FIELDS:
            system = System(field, 3, [linear(field, [0, 1], 1)])
            for thing in odd_things() + [0, (1, 1, 0), (0, 0, 0), (1, 0), (1, 0, 0, 0), [1, 0, 0], (True, 0, 0), "100"]:
                with self.subTest(thing=repr(thing)), self.assertRaises(NoFilling):
                    worths_of(system, 2, thing)

    def test_uppers_play_no_part(self):
        system = System(FRACTIONS, 2, [linear(FRACTIONS, [0, 1], 1)], [place(0)])
        self.assertEqual(worths_of(system, 1, (0, 1)), {(): ONE, (0,): (0, 1), (1,): ONE})

    def test_the_order_of_refusals(self):
        many = System(TWO, 60, [place(0, TWO)])
        good, wrong = (0,) * 60, (1,) * 60
        for degree in NO_DEGREES:
            with self.subTest(degree=repr(degree)):
                with self.assertRaises(NoDegree):
                    worths_of(many, degree, wrong)
                with self.assertRaises(NoDegree):
                    worths_of(System(TWO, 1, []), degree, (0,))
        with self.assertRaises(NoFilling):
            worths_of(many, 300, wrong)
        with self.assertRaises(NoFilling):
            worths_of(many, 3, None)
        with self.assertRaises(TooMany):
            worths_of(many, 300, good)

    def test_how_many_products(self):
        for places, degree, many in ((49, 3, 19650), (14, 14, 16384), (14, 300, 16384), (26, 4, 17902), (60, 2, 1831)):
            system = System(TWO, places, [linear(TWO, [0, places - 1], 0)])
            worths = worths_of(system, degree, (1,) * places)
            self.assertEqual(len(worths), many)
            self.assertIs(lets_worths(system, degree, worths), True)
        for places, degree in ((50, 3), (27, 4), (15, 8), (15, 15), (15, 300), (60, 3), (60, 60)):
            with self.subTest(places=places, degree=degree), self.assertRaises(TooMany):
                worths_of(System(TWO, places, []), degree, (0,) * places)

    def test_told_anew(self):
        system = guests(FRACTIONS, 2, 2)
        told = worths_of(system, 2, (1, 0, 0, 1))
        kept = dict(told)
        told.clear()
        self.assertEqual(worths_of(system, 2, (1, 0, 0, 1)), kept)

    def test_by_name_in_any_order(self):
        self.assertEqual(worths_of(filling=(1,), degree=1, system=System(TWO, 1, [])), {(): ONE, (0,): ONE})


class Both(unittest.TestCase):
    def test_never_both(self):
        # Where a filling is there, its worths are let by and no showing is; where a showing is, no worths are.
        chance = seeded(15)
        for field in SOME_FIELDS:
            system, showing = triangle(field), triangle_showing(field)
            for degree in (2, 3):
                self.assertIs(lets_showing(system, degree, showing), True)
                for row in all_rows(3):
                    worths = worths_of(System(field, 3, []), degree, row)
                    self.assertIs(lets_worths(system, degree, worths), False)
                for _ in range(20):
                    thing = {product: some_number(field, chance) for product in products_by_hand(3, degree)}
                    thing[()] = ONE
                    self.assertIs(lets_worths(system, degree, thing), False)


if __name__ == "__main__":
    unittest.main()
