"""Mixtures of fillings (point 18, and 2 and 3)."""

import unittest
from fractions import Fraction

from falsesums.errors import NoDegree, NoWeights, NoWorths
from falsesums.fields import Field
from falsesums.fillings import fillings
from falsesums.mixtures import is_weights, mixed, weights_of
from falsesums.papers import lets_worths, worths_of
from falsesums.sums import Sum
from falsesums.systems import System
from falsesums.telling import told
from tests.helper import (FRACTIONS, SOME_FIELDS, Stubborn, fraction_of, linear, number_of, odd_things, place,
                          products_by_hand, seeded, some_number, some_system, worths_by_hand)

ONE = (1, 1)
TWO = Field(2)
SEVEN = Field(7)
NO_DEGREES = [-1, 301, 10 ** 40, 1.0] + odd_things()


def some_weights(system, chance):
    """Weights made by chance, of some of the fillings; None where there is no filling."""
    field, found = system.field(), fillings(system)
    if not found:
        return None
    weights, left = {}, ONE
    for filling in found[1:]:
        number = some_number(field, chance)
        if number[0] and chance.random() < 0.7:
            weights[filling] = number
            left = field.minus(left, number)
    if left[0]:
        weights[found[0]] = left
    return weights


def mixed_by_hand(system, degree, weights):
    return {product: number_of(system.field(), sum((fraction_of(number) for filling, number in weights.items()
                                                    if all(filling[at] for at in product)), Fraction(0)))
            for product in products_by_hand(system.places(), degree)}


class IsWeights(unittest.TestCase):
    def test_of_weights(self):
        chance = seeded(180)
        for field in SOME_FIELDS:
            for _ in range(30):
                system = some_system(field, chance)
                weights = some_weights(system, chance)
                if weights is not None:
                    self.assertIs(is_weights(system, weights), True)
                    for filling in weights:
                        less = {other: number for other, number in weights.items() if other != filling}
                        self.assertIs(is_weights(system, less), False)

    def test_of_one_filling(self):
        system = System(SEVEN, 2, [linear(SEVEN, [0, 1], 1)])
        self.assertIs(is_weights(system, {(0, 1): ONE}), True)
        self.assertIs(is_weights(system, {(0, 1): (5, 1), (1, 0): (3, 1)}), True)
        self.assertIs(is_weights(system, {(0, 1): (5, 1), (1, 0): (2, 1)}), False)
        self.assertIs(is_weights(system, {(0, 1): (2, 1)}), False)

    def test_keys_that_are_no_filling(self):
        system = System(FRACTIONS, 2, [linear(FRACTIONS, [0, 1], 1)])
        for key in ((1, 1), (0, 0), (0,), (), (0, 1, 0), "01", 1, None, (True, 0), (0, 2), frozenset([0, 1]), (1, None)):
            self.assertIs(is_weights(system, {key: ONE}), False)
            self.assertIs(is_weights(system, {(0, 1): (1, 2), key: (1, 2)}), False)
            self.assertIs(is_weights(system, {key: (1, 2), (0, 1): (1, 2)}), False)

    def test_numbers(self):
        for field in SOME_FIELDS:
            system = System(field, 1, [])
            wrong = odd_things() + [0, 1, (0, 1), (1, 0), (2, 2), (True, 1), [1, 1], (1, 1, 1), (Stubborn(), 1)]
            wrong += [(field.prime() + 1, 1), (1, 2)] if field.prime() else [(2, 1), (-1, 1), (1, 2), (1, -1)]
            for number in wrong:
                with self.subTest(field=field, number=repr(number)):
                    self.assertIs(is_weights(system, {(0,): number}), False)
            # Nought is none of the numbers, also where all come to 1.
            self.assertIs(is_weights(system, {(0,): ONE, (1,): (0, 1)}), False)

    def test_below_nought_and_above_one(self):
        system = System(FRACTIONS, 1, [])
        self.assertIs(is_weights(system, {(0,): (5, 2), (1,): (-3, 2)}), True)
        self.assertIs(is_weights(system, {(0,): (5, 2), (1,): (-3, 4)}), False)

    def test_anything_else(self):
        for system in (System(FRACTIONS, 1, []), System(TWO, 1, []), System(TWO, 1, [Sum(TWO, [((), ONE)])])):
            for thing in odd_things() + [0, [((0,), ONE)], {(0,): ONE}.items(), ((0,), ONE), {}]:
                with self.subTest(thing=repr(thing)):
                    self.assertIs(is_weights(system, thing), False)

    def test_uppers_play_no_part(self):
        system = System(FRACTIONS, 1, [], [place(0).scaled((-1, 1))])
        self.assertIs(is_weights(system, {(1,): ONE}), True)

    def test_by_name_in_any_order(self):
        self.assertIs(is_weights(thing={(0,): ONE}, system=System(TWO, 1, [])), True)


class Mixed(unittest.TestCase):
    def test_let_by_as_worths(self):
        chance = seeded(181)
        for field in SOME_FIELDS:
            for _ in range(25):
                system = some_system(field, chance)
                weights = some_weights(system, chance)
                if weights is not None:
                    for degree in (0, 1, 2, 3, 6, 300):
                        worths = mixed(system, degree, weights)
                        self.assertEqual(worths, mixed_by_hand(system, degree, weights))
                        self.assertTrue(worths_by_hand(system, degree, worths))
                        self.assertIs(lets_worths(system, degree, worths), True)

    def test_of_one_filling_its_worths(self):
        system = System(SEVEN, 3, [linear(SEVEN, [0, 1, 2], 2)])
        for filling in fillings(system):
            for degree in range(5):
                self.assertEqual(mixed(system, degree, {filling: ONE}), worths_of(system, degree, filling))

    def test_refusals(self):
        system = System(FRACTIONS, 1, [])
        good = {(0,): ONE}
        for degree in NO_DEGREES:
            for weights in (good, {}, None, Stubborn()):
                with self.subTest(degree=repr(degree)), self.assertRaises(NoDegree):
                    mixed(system, degree, weights)
        for weights in odd_things() + [0, {(0,): (1, 2)}, {(2,): ONE}, {(0,): ONE, (1,): (0, 1)}, [((0,), ONE)]]:
            with self.subTest(weights=repr(weights)), self.assertRaises(NoWeights):
                mixed(system, 1, weights)
        self.assertEqual(mixed(system, 1, good), {(): ONE, (0,): (0, 1)})

    def test_many_places(self):
        system = System(FRACTIONS, 60, [linear(FRACTIONS, range(60), 1)])
        rows = [tuple(int(at == one) for at in range(60)) for one in range(60)]
        worths = mixed(system, 2, {row: (1, 60) for row in rows})
        self.assertEqual(len(worths), 1831)
        self.assertEqual((worths[(7,)], worths[(7, 8)], worths[()]), ((1, 60), (0, 1), ONE))
        self.assertIs(lets_worths(system, 2, worths), True)

    def test_what_is_handed_in_and_told(self):
        system = System(FRACTIONS, 2, [])
        weights = {(0, 1): (1, 3), (1, 1): (2, 3)}
        told_once = mixed(system, 2, weights)
        self.assertEqual(weights, {(0, 1): (1, 3), (1, 1): (2, 3)})
        kept = dict(told_once)
        told_once.clear()
        self.assertEqual(mixed(system, 2, weights), kept)

    def test_by_name_in_any_order(self):
        self.assertEqual(mixed(weights={(1,): ONE}, system=System(TWO, 1, []), degree=1), {(): ONE, (0,): ONE})


class WeightsOf(unittest.TestCase):
    def test_just_the_weights_that_they_were_mixed_by(self):
        chance = seeded(182)
        for field in SOME_FIELDS:
            for _ in range(30):
                system = some_system(field, chance)
                weights = some_weights(system, chance)
                if weights is not None:
                    for degree in (system.top(), system.top() + 1, 300):
                        self.assertEqual(weights_of(system, degree, mixed(system, degree, weights)), weights)

    def test_of_told_worths(self):
        chance = seeded(183)
        for field in SOME_FIELDS:
            for _ in range(25):
                system = some_system(field, chance)
                word, paper = told(system, system.top())
                # Where no filling is there a showing of the top degree is.
                self.assertEqual(word, "worths" if fillings(system) else "showing")
                if word == "worths":
                    weights = weights_of(system, system.top(), paper)
                    self.assertIs(is_weights(system, weights), True)
                    self.assertEqual(mixed(system, system.top(), weights), paper)

    def test_at_a_lesser_degree(self):
        for field in SOME_FIELDS:
            for noughts, top in (([], 3), ([Sum(field)], 3), ([place(0, field)], 4), ([Sum(field, [((0, 1), ONE)])], 5)):
                system = System(field, 3, noughts)
                worths = worths_of(system, 300, (0, 0, 0))
                for degree in range(top):
                    for thing in (worths, worths_of(system, degree, (0, 0, 0)), None):
                        with self.assertRaises(NoDegree):
                            weights_of(system, degree, thing)
                self.assertEqual(weights_of(system, top, worths), {(0, 0, 0): ONE})

    def test_uppers_count_in_the_top_degree(self):
        system = System(FRACTIONS, 2, [], [Sum(FRACTIONS, [((0, 1), ONE)])])
        worths = worths_of(system, 4, (1, 0))
        with self.assertRaises(NoDegree):
            weights_of(system, 3, worths)
        self.assertEqual(weights_of(system, 4, worths), {(1, 0): ONE})

    def test_no_degree(self):
        system = System(FRACTIONS, 1, [])
        for degree in NO_DEGREES:
            for worths in ({(): ONE, (0,): ONE}, None, Stubborn()):
                with self.subTest(degree=repr(degree)), self.assertRaises(NoDegree):
                    weights_of(system, degree, worths)

    def test_no_worths(self):
        for field in SOME_FIELDS:
            system = System(field, 2, [linear(field, [0, 1], 1)])
            good = worths_of(system, 3, (0, 1))
            wrong = [good | {(0,): ONE}, good | {(): (0, 1)}, good | {(0, 1): ONE}, {(): ONE}, good | {(2,): ONE},
                     worths_of(System(field, 2, []), 3, (1, 1)), list(good.items()), {(0, 1): ONE}]
            for thing in odd_things() + wrong:
                with self.subTest(thing=repr(thing)), self.assertRaises(NoWorths):
                    weights_of(system, 3, thing)
            self.assertEqual(weights_of(system, 3, good), {(0, 1): ONE})

    def test_many_fillings(self):
        system = System(FRACTIONS, 12, [])
        weights = {filling: (1, 4096) for filling in fillings(system)}
        self.assertIs(is_weights(system, weights), True)
        worths = mixed(system, 12, weights)
        self.assertEqual(worths, {product: (1, 2 ** len(product)) for product in products_by_hand(12, 12)})
        self.assertEqual(weights_of(system, 12, worths), weights)

    def test_what_is_handed_in_and_told(self):
        system = System(SEVEN, 2, [])
        worths = mixed(system, 2, {(0, 1): (3, 1), (1, 1): (5, 1)})
        kept = dict(worths)
        told_once = weights_of(system, 2, worths)
        self.assertEqual(worths, kept)
        told_once.clear()
        self.assertEqual(weights_of(system, 2, worths), {(0, 1): (3, 1), (1, 1): (5, 1)})

    def test_by_name_in_any_order(self):
        self.assertEqual(weights_of(worths={(): ONE, (0,): ONE}, degree=1, system=System(TWO, 1, [])), {(1,): ONE})


if __name__ == "__main__":
    unittest.main()
