"""Fillings of systems (point 8)."""

import unittest

from falsesums.errors import TooMany
from falsesums.fields import Field
from falsesums.fillings import fillings, is_filling
from falsesums.sums import Sum
from falsesums.systems import System
from tests.helper import FRACTIONS, SOME_FIELDS, Stubborn, all_rows, odd_things, seeded, some_sum, worth_by_hand

ONE = (1, 1)
MINUS = (-1, 1)
TWO = Field(2)


def place(number, field=FRACTIONS):
    return Sum(field, [((number,), ONE)])


def by_hand(system, sided):
    """All fillings, found by trying each row with Python's fractions."""
    return [row for row in all_rows(system.places())
            if all(worth_by_hand(nought, row) == (0, 1) for nought in system.noughts())
            and (not sided or all(worth_by_hand(upper, row)[0] >= 0 for upper in system.uppers()))]


def some_systems(seed, many, places):
    chance = seeded(seed)
    for field in SOME_FIELDS:
        for _ in range(many):
            noughts = [some_sum(field, places, chance.randint(0, 3), chance) for _ in range(chance.randint(0, 2))]
            uppers = [some_sum(field, places, 3, chance) for _ in range(chance.randint(0, 2))]
            yield System(field, places, noughts, [] if field.prime() else uppers)


# One of the first two is 1, and the third one is not more than the first.
SYSTEM = System(FRACTIONS, 3, [Sum(FRACTIONS, [((), MINUS), ((0,), ONE), ((1,), ONE)])],
                [Sum(FRACTIONS, [((0,), ONE), ((2,), MINUS)])])


class IsFilling(unittest.TestCase):
    def test_each_row(self):
        for system in some_systems(1, 20, 3):
            plain, round_ones = by_hand(system, False), by_hand(system, True)
            for row in all_rows(3):
                self.assertIs(is_filling(system, row), row in plain)
                self.assertIs(is_filling(system, row, False), row in plain)
                self.assertIs(is_filling(system, row, True), row in round_ones)

    def test_plainly(self):
        self.assertIs(is_filling(SYSTEM, (0, 1, 1)), True)
        self.assertIs(is_filling(SYSTEM, (0, 1, 1), True), False)
        self.assertIs(is_filling(SYSTEM, (1, 0, 1), True), True)
        self.assertIs(is_filling(SYSTEM, (1, 1, 1)), False)
        self.assertIs(is_filling(SYSTEM, (1, 1, 1), True), False)

    def test_each_wish_counts(self):
        for at in range(4):
            wishes = [Sum(FRACTIONS)] * 4
            wishes[at] = place(0)
            self.assertIs(is_filling(System(FRACTIONS, 1, wishes), (1,)), False)
            self.assertIs(is_filling(System(FRACTIONS, 1, wishes), (0,)), True)
            wishes[at] = place(0).scaled(MINUS)
            self.assertIs(is_filling(System(FRACTIONS, 1, [], wishes), (1,), True), False)
            self.assertIs(is_filling(System(FRACTIONS, 1, [], wishes), (1,)), True)
            self.assertIs(is_filling(System(FRACTIONS, 1, [], wishes), (0,), True), True)

    def test_anything_else(self):
        for system in (System(FRACTIONS, 3, []), System(TWO, 3, []), SYSTEM):
            for sided in (False, True):
                for thing in odd_things() + [[1, 0, 1], (1, 0), (1, 0, 1, 0), (True, 0, 1), (1, False, 1), (1, 0, 2),
                                             (1, 0, -1), (1, 0, None), (1, 0, "1"), "101", (1, 0, Stubborn()), 5,
                                             ((1, 0, 1),), {0: 1, 1: 0, 2: 1}, (1, 0, (1, 1))]:
                    with self.subTest(thing=repr(thing), sided=sided):
                        self.assertIs(is_filling(system, thing, sided), False)

    def test_over_primes(self):
        three = Field(3)
        system = System(three, 4, [Sum(three, [((at,), ONE) for at in range(4)])])
        for row in all_rows(4):
            self.assertIs(is_filling(system, row), sum(row) % 3 == 0)

    def test_up_to_sixty_places(self):
        for places in (12, 13, 30, 60):
            system = System(TWO, places, [Sum(TWO, [((at,), ONE) for at in range(places)]), place(0, TWO)])
            self.assertIs(is_filling(system, (0,) * places), True)
            self.assertIs(is_filling(system, (0,) * (places - 2) + (1, 1)), True)
            self.assertIs(is_filling(system, (0,) * (places - 1) + (1,)), False)
            self.assertIs(is_filling(system, (1,) + (0,) * (places - 2) + (1,)), False)
            self.assertIs(is_filling(system, (0,) * (places + 1)), False)

    def test_by_name_in_any_order(self):
        self.assertIs(is_filling(sided=True, thing=(1, 0, 1), system=SYSTEM), True)
        self.assertIs(is_filling(sided=True, thing=(0, 1, 1), system=SYSTEM), False)


class Fillings(unittest.TestCase):
    def test_by_trying(self):
        for system in some_systems(2, 25, 4):
            self.assertEqual(fillings(system), by_hand(system, False))
            self.assertEqual(fillings(system, False), by_hand(system, False))
            self.assertEqual(fillings(system, True), by_hand(system, True))

    def test_plainly(self):
        self.assertEqual(fillings(SYSTEM), [(0, 1, 0), (0, 1, 1), (1, 0, 0), (1, 0, 1)])
        self.assertEqual(fillings(SYSTEM, True), [(0, 1, 0), (1, 0, 0), (1, 0, 1)])
        self.assertEqual(fillings(System(FRACTIONS, 2, [])), [(0, 0), (0, 1), (1, 0), (1, 1)])
        self.assertEqual(fillings(System(TWO, 1, [place(0, TWO)])), [(0,)])

    def test_unlike_bottoms(self):
        half, third = Sum(FRACTIONS, [((0,), (1, 2))]), Sum(FRACTIONS, [((1,), (-1, 3)), ((2,), (-1, 6))])
        self.assertEqual(fillings(System(FRACTIONS, 3, [half.plus(third)])), [(0, 0, 0), (1, 1, 1)])
        self.assertEqual(fillings(System(FRACTIONS, 3, [], [half.plus(third)]), True),
                         [(0, 0, 0), (1, 0, 0), (1, 0, 1), (1, 1, 0), (1, 1, 1)])

    def test_tops_and_bottoms_that_share_divisors(self):
        for terms in ([((0,), (1, 2)), ((1,), (-2, 3)), ((2,), (1, 6))],
                      [((0,), (3, 4)), ((1,), (-4, 9)), ((2,), (-11, 36)), ((), (0, 1))],
                      [((), (-5, 6)), ((0,), (1, 2)), ((1,), (1, 3)), ((2,), (6, 35)), ((0, 2), (-6, 35))]):
            one = Sum(FRACTIONS, terms)
            for system in (System(FRACTIONS, 3, [one]), System(FRACTIONS, 3, [], [one])):
                for sided in (False, True):
                    self.assertEqual(fillings(system, sided), by_hand(system, sided))

    def test_none(self):
        self.assertEqual(fillings(System(FRACTIONS, 2, [Sum(FRACTIONS, [((), ONE)])])), [])
        self.assertEqual(fillings(System(FRACTIONS, 2, [place(0), Sum(FRACTIONS, [((), MINUS), ((0,), ONE)])])), [])
        self.assertEqual(fillings(System(FRACTIONS, 2, [], [Sum(FRACTIONS, [((), MINUS)])]), True), [])
        self.assertEqual(len(fillings(System(FRACTIONS, 2, [], [Sum(FRACTIONS, [((), MINUS)])]))), 4)

    def test_twelve_places(self):
        self.assertEqual(fillings(System(FRACTIONS, 12, [])), all_rows(12))
        odd = System(TWO, 12, [Sum(TWO, [((), ONE)] + [((at,), ONE) for at in range(12)])])
        self.assertEqual(fillings(odd), [row for row in all_rows(12) if sum(row) % 2])

    def test_long_wishes_of_twelve_places(self):
        none_is_one = Sum(FRACTIONS, [((), ONE)])
        for at in range(12):
            none_is_one = none_is_one.times(Sum(FRACTIONS, [((), ONE), ((at,), MINUS)]))
        self.assertEqual(len(none_is_one), 4096)
        self.assertEqual(fillings(System(FRACTIONS, 12, [none_is_one] * 20)), all_rows(12)[1:])

    def test_thirteen_places(self):
        for places in (13, 20, 60):
            for sided in (False, True):
                with self.subTest(places=places, sided=sided), self.assertRaises(TooMany):
                    fillings(System(FRACTIONS, places, [place(0)]), sided)

    def test_told_anew(self):
        told = fillings(SYSTEM)
        told.clear()
        self.assertEqual(len(fillings(SYSTEM)), 4)

    def test_by_name_in_any_order(self):
        self.assertEqual(fillings(sided=True, system=SYSTEM), fillings(SYSTEM, True))


if __name__ == "__main__":
    unittest.main()
