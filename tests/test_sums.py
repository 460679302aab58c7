"""Sums, what is told of them, and what is made of them (points 5 and 6, and 2)."""

import copy
import itertools
import unittest

from falsesums.errors import NoFilling, NoNumber, NoOrder, NoSum, NoSums, Unlike
from falsesums.fields import Field
from falsesums.sums import Sum
from tests.helper import (FRACTIONS, SOME_FIELDS, Stubborn, all_rows, but, number_of, odd_things, seeded, some_number,
                          some_sum, sum_of, worth_by_hand)

ONE = (1, 1)
SEVEN = Field(7)


def place(number, field=FRACTIONS):
    return Sum(field, [((number,), ONE)])


def constant(number, field=FRACTIONS):
    return Sum(field, [((), number)])


class Making(unittest.TestCase):
    def test_of_nothing_it_is_nought(self):
        for field in SOME_FIELDS:
            for one in (Sum(field), Sum(field, None), Sum(field, []), Sum(field, [((), (0, 1))])):
                self.assertEqual(one.terms(), [])
                self.assertEqual(one, Sum(field))

    def test_terms_in_any_order(self):
        terms = [((), (1, 2)), ((0,), (2, 1)), ((5,), (-1, 1)), ((0, 1), (3, 1)), ((1, 2, 3), (1, 5))]
        for mixed in itertools.permutations(terms):
            self.assertEqual(Sum(FRACTIONS, list(mixed)).terms(), terms)

    def test_fewer_places_first_then_as_tuples_are_sorted(self):
        products = [(), (0,), (9,), (10,), (59,), (0, 1), (0, 59), (1, 2), (10, 11), (0, 1, 2), (0, 2, 3), (2, 10, 11),
                    (0, 1, 2, 3)]
        told = Sum(SEVEN, [(product, ONE) for product in reversed(products)]).terms()
        self.assertEqual([product for product, number in told], products)

    def test_products_several_times_are_added(self):
        one = Sum(FRACTIONS, [((1,), (1, 2)), ((), ONE), ((1,), (1, 3)), ((1,), (-1, 6))])
        self.assertEqual(one.terms(), [((), ONE), ((1,), (2, 3))])
        one = Sum(SEVEN, [((1,), (5, 1)), ((1,), (5, 1))])
        self.assertEqual(one.terms(), [((1,), (3, 1))])

    def test_what_comes_to_nought_is_left_out(self):
        self.assertEqual(Sum(FRACTIONS, [((1,), (1, 2)), ((1,), (-1, 2))]), Sum(FRACTIONS))
        self.assertEqual(Sum(SEVEN, [((1,), (5, 1)), ((1,), (2, 1)), ((2,), (0, 1))]).terms(), [])
        self.assertEqual(Sum(FRACTIONS, [((), (0, 1)), ((3,), ONE), ((), (0, 1))]).terms(), [((3,), ONE)])

    def test_all_places(self):
        whole = tuple(range(60))
        self.assertEqual(Sum(SEVEN, [(whole, ONE)]).terms(), [(whole, ONE)])

    def test_large_numbers(self):
        number = (10 ** 59 + 1, 10 ** 59)
        self.assertEqual(constant(number).terms(), [((), number)])

    def test_by_name_in_any_order(self):
        self.assertEqual(Sum(terms=[((0,), ONE)], field=SEVEN), place(0, SEVEN))
        self.assertEqual(Sum(field=SEVEN), Sum(SEVEN))


class Refusals(unittest.TestCase):
    def refused(self, field, terms):
        with self.assertRaises(NoSum) as caught:
            Sum(field, terms)
        return caught.exception.number

    def test_what_is_no_list(self):
        for field in (FRACTIONS, SEVEN):
            for thing in but(list, type(None)) + [0, (((0,), ONE),), {(0,): ONE}, place(0)]:
                with self.subTest(thing=repr(thing)):
                    self.assertIsNone(self.refused(field, thing))

    def test_the_number_of_the_first_wrong_thing(self):
        right = ((0,), ONE)
        for thing in odd_things() + [0, [(0,), ONE], ((0,),), ((0,), ONE, ONE), ((0,), [1, 1]), ([0], ONE), (0, ONE),
                                     ("x0", ONE), (None, ONE), ((0,), None), ((0,), 1)]:
            for ahead in range(3):
                with self.subTest(thing=repr(thing), ahead=ahead):
                    self.assertEqual(self.refused(FRACTIONS, [right] * ahead + [thing, right, thing]), ahead)

    def test_products_that_are_none(self):
        for product in [(1, 0), (0, 0), (0, 1, 1), (3, 2, 4), (-1,), (60,), (0, 60), (-1, 0), (True,), (False,),
                        (0, True), (None,), ("0",), ((0,),), (0, Stubborn()), (10 ** 30,), [0], {0}]:
            with self.subTest(product=repr(product)):
                self.assertEqual(self.refused(SEVEN, [((), ONE), (product, ONE)]), 1)

    def test_numbers_that_are_none(self):
        for number in [(2, 4), (1, 0), (1, -1), (0, 2), (True, 1), (1, True), (1,), 1, [1, 1], None]:
            with self.subTest(number=repr(number)):
                self.assertEqual(self.refused(FRACTIONS, [((0,), number)]), 0)
        for number in [(7, 1), (-1, 1), (1, 2), (True, 1), (1, True), 1, None]:
            with self.subTest(number=repr(number)):
                self.assertEqual(self.refused(SEVEN, [((0,), number)]), 0)

    def test_a_wrong_product_with_nought(self):
        self.assertEqual(self.refused(SEVEN, [((1, 0), (0, 1))]), 0)


class Told(unittest.TestCase):
    def test_field(self):
        self.assertEqual(Sum(SEVEN).field(), SEVEN)
        self.assertEqual(place(3).field(), Field(0))

    def test_degree(self):
        for terms, degree in [([], 0), ([((), ONE)], 0), ([((59,), ONE)], 1), ([((1, 2, 3), ONE), ((7,), ONE)], 3),
                              ([((1, 2), ONE), ((1, 2), (6, 1)), ((3,), ONE)], 1)]:
            self.assertEqual(Sum(SEVEN, terms).degree(), degree)

    def test_length(self):
        for terms, many in [([], 0), ([((), ONE)], 1), ([((1,), ONE), ((2,), ONE), ((1,), ONE)], 2),
                            ([((1,), ONE), ((1,), (6, 1))], 0)]:
            self.assertEqual(len(Sum(SEVEN, terms)), many)

    def test_terms_is_a_new_list_each_time(self):
        one = Sum(SEVEN, [((0,), ONE), ((1,), ONE)])
        first = one.terms()
        first.append("more")
        first[0] = "other"
        self.assertEqual(one.terms(), [((0,), ONE), ((1,), ONE)])
        self.assertIsNot(one.terms(), one.terms())
        self.assertEqual(len(one), 2)

    def test_what_was_handed_in_may_change(self):
        terms = [((1,), ONE), ((0,), ONE), ((1,), ONE)]
        before = copy.deepcopy(terms)
        one = Sum(SEVEN, terms)
        self.assertEqual(terms, before)
        terms.clear()
        self.assertEqual(one.terms(), [((0,), ONE), ((1,), (2, 1))])

    def test_a_refused_list_stays(self):
        terms = [((1,), ONE), "wrong", ((1,), ONE)]
        with self.assertRaises(NoSum):
            Sum(SEVEN, terms)
        self.assertEqual(terms, [((1,), ONE), "wrong", ((1,), ONE)])


class Equality(unittest.TestCase):
    def test_equal_where_terms_are(self):
        self.assertTrue(Sum(SEVEN, [((0,), (3, 1)), ((1,), ONE)]) ==
                        Sum(Field(7), [((1,), ONE), ((0,), (2, 1)), ((0,), ONE), ((5,), (0, 1))]))
        self.assertFalse(place(0) != place(0))
        self.assertFalse(place(0) == place(1))
        self.assertFalse(place(0) == place(0).scaled((2, 1)))
        self.assertTrue(place(0) != place(1))
        self.assertFalse(place(0) == Sum(FRACTIONS, [((0,), ONE), ((1,), ONE)]))

    def test_unlike_over_unlike_fields(self):
        for one in SOME_FIELDS:
            for other in SOME_FIELDS:
                self.assertEqual(place(0, one) == place(0, other), one == other)
                self.assertEqual(Sum(one) == Sum(other), one == other)

    def test_never_equal_to_anything_else(self):
        for thing in odd_things() + [0, "0", "x0", [((0,), ONE)], FRACTIONS]:
            with self.subTest(thing=repr(thing)):
                self.assertFalse(place(0) == thing)
                self.assertFalse(Sum(FRACTIONS) == thing)


class Reckoning(unittest.TestCase):
    def some(self, seed, many=12):
        chance = seeded(seed)
        for field in SOME_FIELDS:
            for _ in range(many):
                yield field, chance, some_sum(field, 5, 6, chance), some_sum(field, 5, 6, chance)

    def test_plus_and_times_at_all_fillings(self):
        for field, chance, one, other in self.some(1):
            both, product = one.plus(other), one.times(other)
            for row in all_rows(5):
                first, second = worth_by_hand(one, row), worth_by_hand(other, row)
                self.assertEqual(worth_by_hand(both, row), field.plus(first, second))
                self.assertEqual(worth_by_hand(product, row), field.times(first, second))
            self.assertEqual(both, other.plus(one))
            self.assertEqual(product, other.times(one))

    def test_places_come_together_without_repeats(self):
        one, other = Sum(SEVEN, [((1, 3), (2, 1))]), Sum(SEVEN, [((0, 3, 5), (4, 1))])
        self.assertEqual(one.times(other).terms(), [((0, 1, 3, 5), ONE)])
        self.assertEqual(place(4).times(place(4)), place(4))
        self.assertEqual(one.times(constant((3, 1), SEVEN)).terms(), [((1, 3), (6, 1))])
        self.assertEqual(constant((3, 1), SEVEN).times(one).terms(), [((1, 3), (6, 1))])

    def test_terms_that_meet(self):
        yes, no = place(0), Sum(FRACTIONS, [((), ONE), ((0,), (-1, 1))])
        self.assertEqual(yes.times(no), Sum(FRACTIONS))
        self.assertEqual(no.times(no), no)
        self.assertEqual(yes.plus(no), constant(ONE))

    def test_with_nought(self):
        for field in SOME_FIELDS:
            self.assertEqual(place(1, field).plus(Sum(field)), place(1, field))
            self.assertEqual(place(1, field).times(Sum(field)), Sum(field))
            self.assertEqual(Sum(field).times(Sum(field)), Sum(field))

    def test_unlike(self):
        for one in SOME_FIELDS:
            for other in SOME_FIELDS:
                if one.prime() != other.prime():
                    for left, right in [(place(0, one), place(0, other)), (Sum(one), Sum(other))]:
                        with self.assertRaises(Unlike):
                            left.plus(right)
                        with self.assertRaises(Unlike):
                            left.times(right)

    def test_alike_fields_made_twice(self):
        self.assertEqual(place(0, Field(5)).plus(place(1, Field(5))), Sum(Field(5), [((0,), ONE), ((1,), ONE)]))

    def test_scaled(self):
        for field, chance, one, other in self.some(2):
            number = some_number(field, chance)
            self.assertEqual(one.scaled(number), one.times(constant(number, field)))
            self.assertEqual(one.scaled((0, 1)), Sum(field))
            self.assertEqual(one.scaled(ONE), one)

    def test_scaled_refused(self):
        for thing in odd_things() + [1, (2, 4), (1, 0), [1, 1], (True, 1)]:
            for one in (Sum(FRACTIONS), place(0)):
                with self.subTest(thing=repr(thing)), self.assertRaises(NoNumber):
                    one.scaled(thing)
        for number in [(7, 1), (-1, 1), (1, 2)]:
            with self.subTest(number=number), self.assertRaises(NoNumber):
                place(0, SEVEN).scaled(number)

    def test_they_stay_as_they_were(self):
        one, other = place(0).plus(place(1)), place(2)
        before = one.terms(), other.terms()
        one.plus(other), one.times(other), one.scaled((2, 1)), one.renamed([1, 0]), one.put_in([other, other])
        self.assertEqual((one.terms(), other.terms()), before)

    def test_by_name(self):
        self.assertEqual(place(0).plus(other=place(0)), place(0).scaled(number=(2, 1)))
        self.assertEqual(place(0).times(other=place(1)), Sum(FRACTIONS, [((0, 1), ONE)]))
        self.assertEqual(place(0).renamed(order=[3]), place(3))
        self.assertEqual(place(0).put_in(sums=[place(3)]), place(3))
        self.assertEqual(place(0).worth(filling=(1,)), ONE)


class Worth(unittest.TestCase):
    def test_at_all_fillings(self):
        chance = seeded(3)
        for field in SOME_FIELDS:
            for _ in range(10):
                one = some_sum(field, 4, 6, chance)
                for row in all_rows(4):
                    self.assertEqual(one.worth(row), worth_by_hand(one, row))

    def test_just_long_enough_and_longer(self):
        one = Sum(SEVEN, [((), ONE), ((3,), (2, 1))])
        self.assertEqual(one.worth((0, 0, 0, 1)), (3, 1))
        self.assertEqual(one.worth((1, 1, 1, 0)), ONE)
        self.assertEqual(one.worth((0, 0, 0, 1, 0, 1)), (3, 1))
        self.assertEqual(place(59).worth((0,) * 59 + (1,)), ONE)
        self.assertEqual(place(59).worth((0,) * 59 + (1,) + (0,) * 10), ONE)

    def test_without_places_any(self):
        for one in (Sum(SEVEN), constant((5, 1), SEVEN)):
            for row in ((), (0,), (1, 1, 0)):
                self.assertEqual(one.worth(row), one.terms()[0][1] if len(one) else (0, 1))

    def test_refused(self):
        one = Sum(SEVEN, [((), ONE), ((1, 3), (2, 1))])
        for thing in [(), (0,), (0, 0, 0), [0, 0, 0, 0], (0, 0, 0, True), (False, 0, 0, 0), (0, 0, 0, 2), (0, 0, 0, -1),
                      (0, 0, 0, 0, 2), (0, 0, 0, 0, True), (0, 0, 0, None), "0000", (0, 0, 0, "1"), ((0, 0, 0, 0),)]:
            with self.subTest(thing=repr(thing)), self.assertRaises(NoFilling):
                one.worth(thing)

    def test_other_things_refused(self):
        for thing in odd_things():
            if repr(thing) not in ("()", "(1,)"):
                for one in (Sum(SEVEN), constant(ONE), place(0)):
                    with self.subTest(thing=repr(thing)), self.assertRaises(NoFilling):
                        one.worth(thing)


class Renamed(unittest.TestCase):
    def test_place_i_becomes_the_one_in_the_order(self):
        one = Sum(SEVEN, [((), ONE), ((0,), (2, 1)), ((0, 1), (3, 1)), ((1, 2), (4, 1))])
        self.assertEqual(one.renamed([5, 0, 59]).terms(), [((), ONE), ((5,), (2, 1)), ((0, 5), (3, 1)), ((0, 59), (4, 1))])
        self.assertEqual(one.renamed([2, 0, 1]).renamed([1, 2, 0]), one)
        self.assertEqual(one.renamed([0, 1, 2]), one)

    def test_longer_orders(self):
        self.assertEqual(place(1).renamed([7, 8, 9, 1]), place(8))
        self.assertEqual(place(1).renamed(list(range(59, -1, -1))), place(58))

    def test_the_order_stays(self):
        order = [3, 1, 2]
        place(0).renamed(order)
        self.assertEqual(order, [3, 1, 2])

    def test_without_places_any(self):
        for one in (Sum(SEVEN), constant(ONE)):
            for order in ([], [4], [59, 0]):
                self.assertEqual(one.renamed(order), one)

    def test_refused(self):
        one = Sum(SEVEN, [((1, 2), ONE)])
        for order in [[], [0, 1], [0, 1, 1], [1, 1, 2], [0, 1, 2, 0], [0, 1, 60], [0, 1, -1], [0, 1, 2, 60],
                      [0, 1, 2, -1], [0, True, 2], [False, 1, 2], [0, 1, None], [0, 1, "2"], (0, 1, 2), "012",
                      {0: 0, 1: 1, 2: 2}, range(3), [[0, 1, 2]], [0, 1, 2, 3, 3]]:
            with self.subTest(order=repr(order)), self.assertRaises(NoOrder):
                one.renamed(order)

    def test_other_things_refused(self):
        for thing in odd_things() + [[60], [-1], [1, 1], (1, 0)]:
            if repr(thing) not in ("[]", "[1]"):
                for one in (Sum(SEVEN), constant(ONE), place(0)):
                    with self.subTest(thing=repr(thing)), self.assertRaises(NoOrder):
                        one.renamed(thing)


class PutIn(unittest.TestCase):
    def test_at_all_fillings(self):
        chance = seeded(5)
        for field in SOME_FIELDS:
            for _ in range(8):
                # Sums of 0 and 1 alone, so that the outer sum has a worth at what they come to.
                inner = [place(chance.randrange(3), field), place(0, field).times(place(1, field)),
                         constant(ONE, field).plus(place(2, field).scaled(number_of(field, -1))), Sum(field)]
                chance.shuffle(inner)
                outer = some_sum(field, 4, 6, chance)
                whole = outer.put_in(inner)
                for row in all_rows(3):
                    filling = tuple(worth_by_hand(one, row)[0] for one in inner)
                    self.assertEqual(worth_by_hand(whole, row), worth_by_hand(outer, filling))

    def test_for_each_product_the_product_of_the_sums(self):
        chance = seeded(6)
        for field in SOME_FIELDS:
            for _ in range(8):
                outer, inner = some_sum(field, 4, 6, chance), [some_sum(field, 4, 3, chance) for _ in range(4)]
                wanted = Sum(field)
                for product, number in outer.terms():
                    part = constant(number, field)
                    for at in product:
                        part = part.times(inner[at])
                    wanted = wanted.plus(part)
                self.assertEqual(outer.put_in(inner), wanted)

    def test_longer_lists(self):
        self.assertEqual(place(0).put_in([place(5), place(6)]), place(5))
        self.assertEqual(place(0).put_in([place(5)] * 70), place(5))

    def test_without_places_any(self):
        for one in (Sum(SEVEN), constant((3, 1), SEVEN)):
            for sums in ([], [Sum(SEVEN)], [place(3, SEVEN)] * 3):
                self.assertEqual(one.put_in(sums), one)

    def test_the_list_stays(self):
        sums = [place(1), place(2)]
        place(1).put_in(sums)
        self.assertEqual(sums, [place(1), place(2)])

    def test_refused(self):
        one = Sum(FRACTIONS, [((0, 2), ONE)])
        good = place(0)
        for sums in [[], [good], [good] * 2, (good,) * 3, {0: good, 1: good, 2: good}, good, "x0", None,
                     [good, good, "x0"], [good, None, good], [good, good, good, 0], [good, good, good, "x0"],
                     [good, good, place(0, SEVEN)], [good, Sum(SEVEN), good], [good, good, good, Sum(SEVEN)],
                     [good, good, good.terms()], [[good, good, good]]]:
            with self.subTest(sums=repr(sums)), self.assertRaises(NoSums):
                one.put_in(sums)

    def test_other_things_refused(self):
        for thing in odd_things() + [[Sum(SEVEN)], (), [FRACTIONS]]:
            if repr(thing) != "[]":
                for one in (Sum(FRACTIONS), constant(ONE), place(0)):
                    with self.subTest(thing=repr(thing)), self.assertRaises(NoSums):
                        one.put_in(thing)


class Written(unittest.TestCase):
    CASES = [
        (0, {}, "0"),
        (0, {(): 1}, "1"),
        (0, {(): -1}, "-1"),
        (0, {(): (-2, 3)}, "-2/3"),
        (0, {(0,): 1}, "x0"),
        (0, {(0,): -1}, "-x0"),
        (0, {(): 1, (0,): -2, (0, 2): (1, 3)}, "1 - 2*x0 + 1/3*x0*x2"),
        (0, {(): -1, (0,): 1, (59,): -1}, "-1 + x0 - x59"),
        (0, {(3,): (-1, 2), (1, 2, 10): -1}, "-1/2*x3 - x1*x2*x10"),
        (0, {(3,): (1, 2)}, "1/2*x3"),
        (0, {(3,): (-7, 2)}, "-7/2*x3"),
        (0, {(3,): 10 ** 59}, "1" + "0" * 59 + "*x3"),
        (7, {}, "0"),
        (7, {(): 1, (0,): 2}, "1 + 2*x0"),
        (7, {(): 6, (0,): 6, (1,): 1}, "6 + 6*x0 + x1"),
        (2, {(): 1, (0, 1): 1}, "1 + x0*x1"),
    ]

    def test_as_the_document_writes(self):
        for prime, terms, text in self.CASES:
            field = Field(prime)
            one = Sum(field, [(product, field.made(*number) if isinstance(number, tuple) else field.made(number))
                              for product, number in terms.items()])
            with self.subTest(text=text):
                self.assertEqual(str(one), text)
                self.assertEqual(repr(one), f"Sum({prime}, '{text}')")

    def test_noughts_within_large_numbers(self):
        for number in (10 ** 64, 10 ** 64 - 1, 10 ** 64 + 1, 10 ** 128, 10 ** 128 + 5, 3 * 10 ** 200 + 7 * 10 ** 64):
            self.assertEqual(str(constant((number, 1))), str(number))
            self.assertEqual(str(constant((-1, number))), f"-1/{number}")
            self.assertEqual(str(sum_of(FRACTIONS, {(2,): number})), f"{number}*x2")

    def test_numbers_that_python_would_not_write(self):
        number = (10 ** 59 + 3, 1)
        for _ in range(7):
            number = FRACTIONS.times(number, number)
        text = str(constant(number))
        self.assertEqual(len(text), 59 * 128 + 1)
        read = 0
        for figure in text:
            read = read * 10 + "0123456789".index(figure)
        self.assertEqual(read, number[0])
        self.assertEqual(repr(constant(FRACTIONS.over(ONE, number))), f"Sum(0, '1/{text}')")


if __name__ == "__main__":
    unittest.main()
