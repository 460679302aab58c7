"""Least degrees (point 17, and 2 and 3)."""

import unittest

from falsesums.errors import TooMany
from falsesums.fields import Field
from falsesums.fillings import fillings
from falsesums.leasts import least
from falsesums.papers import lets_showing, lets_worths
from falsesums.sums import Sum
from falsesums.systems import System
from falsesums.telling import told
from tests.helper import (FRACTIONS, SOME_FIELDS, constant, guests, linear, place, seeded, showing_by_hand,
                          showing_is_there, some_system, worths_by_hand)

ONE = (1, 1)
TWO = Field(2)


class Least(unittest.TestCase):
    def degree_of(self, system):
        """The least degree, both papers looked at."""
        word, degree, showing, worths = least(system)
        self.assertEqual(word, "least")
        self.assertLessEqual(degree, system.top())
        self.assertTrue(showing_by_hand(system, degree, showing))
        self.assertIs(lets_showing(system, degree, showing), True)
        if degree == 0:
            self.assertIsNone(worths)
        else:
            self.assertTrue(worths_by_hand(system, degree - 1, worths))
            self.assertIs(lets_worths(system, degree - 1, worths), True)
        return degree

    def test_just_one_of_both(self):
        chance = seeded(17)
        filled, degrees = 0, []
        for field in SOME_FIELDS:
            for _ in range(40):
                system = some_system(field, chance, most_noughts=4)
                found = fillings(system)
                if found:
                    filled += 1
                    self.assertEqual(least(system), ("filled", found[0]))
                else:
                    degree = self.degree_of(system)
                    degrees.append(degree)
                    self.assertTrue(showing_is_there(system, degree))
                    if degree:
                        self.assertFalse(showing_is_there(system, degree - 1))
        self.assertGreater(filled, 40)
        self.assertGreater(len(degrees), 40)
        self.assertGreater(len(set(degrees)), 3)

    def test_the_first_filling(self):
        for field in SOME_FIELDS:
            self.assertEqual(least(System(field, 3, [linear(field, [0, 1], 1)])), ("filled", (0, 1, 0)))
            self.assertEqual(least(System(field, 3, [])), ("filled", (0, 0, 0)))
            self.assertEqual(least(System(field, 12, [])), ("filled", (0,) * 12))
            self.assertEqual(least(System(field, 2, [linear(field, [0], 1)])), ("filled", (1, 0)))

    def test_uppers_play_no_part(self):
        system = System(FRACTIONS, 2, [linear(FRACTIONS, [0, 1], 1)], [place(0), constant(FRACTIONS, -1)])
        self.assertEqual(least(system), ("filled", (0, 1)))

    def test_degree_nought(self):
        for field in SOME_FIELDS:
            self.assertEqual(self.degree_of(System(field, 2, [constant(field, 1)])), 0)
            self.assertEqual(self.degree_of(System(field, 2, [place(0, field), constant(field, -1)])), 0)

    def test_guests_and_rooms(self):
        for field in SOME_FIELDS:
            for many, rooms in ((2, 1), (1, 2), (3, 2), (2, 3), (4, 3)):
                if field.prime() == 0 or (many - rooms) % field.prime():
                    self.assertEqual(self.degree_of(guests(field, many, rooms)), 1)

    def test_half_of_an_odd_number(self):
        for places in range(1, 8):
            for top, bottom in ((-1, 2), (-places - 1, 1), (1, 1)):
                system = System(FRACTIONS, places, [linear(FRACTIONS, range(places), 0).plus(
                    constant(FRACTIONS, top, bottom))])
                self.assertEqual(self.degree_of(system), places + 1)

    def test_all_and_not_one(self):
        for field in SOME_FIELDS:
            for many in range(1, 6):
                whole = Sum(field, [(tuple(range(many)), ONE), ((), field.made(-1))])
                self.assertEqual(self.degree_of(System(field, many, [whole, place(many - 1, field)])), many)

    def test_chains(self):
        for field in SOME_FIELDS:
            for places, degree in ((2, 2), (3, 2), (4, 3), (5, 3), (6, 4)):
                noughts = [linear(field, [0], 1)]
                noughts += [place(at, field).plus(Sum(field, [((at, at + 1), field.made(-1))]))
                            for at in range(places - 1)]
                noughts += [place(places - 1, field)]
                self.assertLessEqual(self.degree_of(System(field, places, noughts)), degree)

    def test_at_the_top_degree(self):
        # A wish that is 1 at each filling but has the full degree: nothing less shows it.
        for field in SOME_FIELDS:
            for places in (1, 2, 3):
                self.assertLessEqual(self.degree_of(System(field, places, [Sum(field, [
                    (tuple(range(places)), ONE), ((), field.made(-1))]), place(0, field)])), places * 2)

    def test_too_many_places(self):
        for places in (13, 20, 60):
            for noughts in ([], [constant(TWO, 1)], [place(0, TWO)]):
                with self.subTest(places=places), self.assertRaises(TooMany):
                    least(System(TWO, places, noughts))

    def test_too_many_products_or_pairs_up_to_the_least_degree(self):
        tall = Sum(FRACTIONS, [(tuple(range(12)), ONE), ((), (-1, 1))])
        with self.assertRaises(TooMany):
            least(System(FRACTIONS, 12, [tall, place(0)]))
        # The least degree is known ahead of all that is too much.
        self.assertEqual(self.degree_of(System(FRACTIONS, 12, [tall, place(0), linear(FRACTIONS, [0], 1)])), 1)
        with self.assertRaises(TooMany):
            least(System(TWO, 11, [place(0, TWO), Sum(TWO, [((0, 1, 2), ONE), ((), ONE)])] + [Sum(TWO)] * 170))
        self.assertEqual(self.degree_of(System(TWO, 11, [place(0, TWO), linear(TWO, [0], 1)] + [Sum(TWO)] * 150)), 1)

    def test_a_filling_is_told_however_many_pairs_there_are(self):
        self.assertEqual(least(System(TWO, 12, [place(0, TWO)] * 200)), ("filled", (0,) * 12))

    def test_told_anew(self):
        system = System(FRACTIONS, 3, [linear(FRACTIONS, [0, 1, 2], 5)])
        first, second = least(system), least(system)
        self.assertEqual(first, second)
        first[2].clear()
        first[3].clear()
        self.assertEqual(least(system), second)
        self.assertEqual(told(system, second[1])[0], "showing")

    def test_renamed_systems_tell_alike(self):
        chance = seeded(18)
        for field in SOME_FIELDS:
            for _ in range(15):
                system = some_system(field, chance, most_noughts=4)
                order = list(range(system.places()))
                chance.shuffle(order)
                one, other = least(system), least(system.renamed(order))
                self.assertEqual(one[0], other[0])
                if one[0] == "least":
                    self.assertEqual(one[1], other[1])

    def test_by_name(self):
        self.assertEqual(least(system=System(TWO, 1, [])), ("filled", (0,)))


if __name__ == "__main__":
    unittest.main()
