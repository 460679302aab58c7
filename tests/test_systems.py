"""Systems (points 7 and 9, and 2)."""

import itertools
import unittest

from falsesums.errors import NoOrder, NoSystem
from falsesums.fields import Field
from falsesums.fillings import fillings
from falsesums.sums import Sum
from falsesums.systems import System
from tests.helper import FRACTIONS, SOME_FIELDS, Stubborn, but, odd_things, seeded, some_sum

ONE = (1, 1)
SEVEN = Field(7)


def place(number, field=FRACTIONS):
    return Sum(field, [((number,), ONE)])


class Making(unittest.TestCase):
    def test_over_primes_and_the_fractions(self):
        for field in SOME_FIELDS:
            wishes = [place(0, field), place(2, field)]
            system = System(field, 3, wishes)
            self.assertEqual(system.field(), field)
            self.assertEqual(system.places(), 3)
            self.assertEqual(system.noughts(), wishes)
            self.assertEqual(system.uppers(), [])
            self.assertEqual(len(system), 2)

    def test_one_and_sixty_places(self):
        self.assertEqual(System(FRACTIONS, 1, [place(0)]).places(), 1)
        self.assertEqual(System(FRACTIONS, 60, [place(59)], [place(59)]).places(), 60)

    def test_without_wishes(self):
        for field in SOME_FIELDS:
            for system in (System(field, 2, []), System(field, 2, [], None), System(field, 2, [], [])):
                self.assertEqual((system.noughts(), system.uppers(), len(system)), ([], [], 0))

    def test_uppers(self):
        system = System(FRACTIONS, 2, [place(0)], [place(1), place(0), place(1)])
        self.assertEqual(system.noughts(), [place(0)])
        self.assertEqual(system.uppers(), [place(1), place(0), place(1)])
        self.assertEqual(len(system), 4)

    def test_two_hundred_of_each_kind(self):
        system = System(FRACTIONS, 2, [place(0)] * 200, [place(1)] * 200)
        self.assertEqual(len(system), 400)
        self.assertEqual(len(System(SEVEN, 2, [place(0, SEVEN)] * 200)), 200)

    def test_by_name_in_any_order(self):
        self.assertEqual(System(uppers=[place(1)], noughts=[place(0)], places=2, field=FRACTIONS),
                         System(FRACTIONS, 2, [place(0)], [place(1)]))

    def test_top(self):
        three = Sum(FRACTIONS, [((0, 1, 2), ONE), ((), ONE)])
        two = Sum(FRACTIONS, [((0, 1), ONE)])
        self.assertEqual(System(FRACTIONS, 4, []).top(), 4)
        self.assertEqual(System(FRACTIONS, 4, [Sum(FRACTIONS)]).top(), 4)
        self.assertEqual(System(FRACTIONS, 4, [place(0)]).top(), 5)
        self.assertEqual(System(FRACTIONS, 4, [three, two]).top(), 7)
        self.assertEqual(System(FRACTIONS, 4, [two, three]).top(), 7)
        self.assertEqual(System(FRACTIONS, 4, [two], [three]).top(), 7)
        self.assertEqual(System(FRACTIONS, 4, [], [two]).top(), 6)
        self.assertEqual(System(FRACTIONS, 60, [], [three]).top(), 63)


class Refusals(unittest.TestCase):
    def refused(self, *parts):
        with self.assertRaises(NoSystem) as caught:
            System(*parts)
        return caught.exception.part, caught.exception.number

    def test_field(self):
        for thing in odd_things() + [0, 7, place(0)]:
            with self.subTest(thing=repr(thing)):
                self.assertEqual(self.refused(thing, 2, []), ("field", None))

    def test_places(self):
        for thing in odd_things() + [0, 61, -1, 10 ** 40, place(0)]:
            with self.subTest(thing=repr(thing)):
                self.assertEqual(self.refused(FRACTIONS, thing, []), ("places", None))

    def test_noughts_that_are_no_list(self):
        for field in (FRACTIONS, SEVEN):
            for thing in but(list) + [0, (place(0),), {0: place(0)}, place(0)]:
                with self.subTest(thing=repr(thing)):
                    self.assertEqual(self.refused(field, 2, thing), ("noughts", None))

    def test_uppers_that_are_no_list(self):
        for field in (FRACTIONS, SEVEN):
            for thing in but(list, type(None)) + [0, (place(0),), {0: place(0)}, place(0)]:
                with self.subTest(thing=repr(thing)):
                    self.assertEqual(self.refused(field, 2, [], thing), ("uppers", None))

    def test_too_many(self):
        self.assertEqual(self.refused(FRACTIONS, 1, [place(0)] * 201), ("noughts", None))
        self.assertEqual(self.refused(FRACTIONS, 1, [], [place(0)] * 201), ("uppers", None))
        self.assertEqual(self.refused(FRACTIONS, 1, [None] * 201), ("noughts", None))
        self.assertEqual(self.refused(SEVEN, 1, [place(0, SEVEN)] * 201), ("noughts", None))

    def test_the_first_wrong_wish(self):
        good = place(1)
        for thing in odd_things() + [0, place(2), place(59), place(0, SEVEN), Sum(SEVEN), good.terms(),
                                     Sum(FRACTIONS, [((0, 2), ONE)])]:
            for ahead in range(3):
                wishes = [good] * ahead + [thing, good, thing]
                with self.subTest(thing=repr(thing), ahead=ahead):
                    self.assertEqual(self.refused(FRACTIONS, 2, wishes), ("noughts", ahead))
                    self.assertEqual(self.refused(FRACTIONS, 2, [], wishes), ("uppers", ahead))

    def test_over_a_prime_no_upper(self):
        for uppers in ([place(0, SEVEN)], [Sum(SEVEN)], [place(0)], [None], [Stubborn()], [place(0, SEVEN)] * 201):
            self.assertEqual(self.refused(SEVEN, 2, [], uppers), ("uppers", None))
        self.assertEqual(len(System(SEVEN, 2, [], [])), 0)
        self.assertEqual(len(System(SEVEN, 2, [], None)), 0)

    def test_the_first_part_that_is_amiss(self):
        wrong = [7, 0, "noughts", "uppers"]
        right = [FRACTIONS, 1, [], []]
        names = ["field", "places", "noughts", "uppers"]
        for choice in itertools.product((True, False), repeat=4):
            parts = [right[at] if fine else wrong[at] for at, fine in enumerate(choice)]
            if not all(choice):
                self.assertEqual(self.refused(*parts), (names[choice.index(False)], None))
        self.assertEqual(self.refused(FRACTIONS, 1, [place(0), place(1)], "uppers"), ("noughts", 1))
        self.assertEqual(self.refused(SEVEN, 1, [place(0)], [place(0)]), ("noughts", 0))


class Own(unittest.TestCase):
    def test_what_was_handed_in_may_change(self):
        noughts, uppers = [place(0)], [place(1)]
        system = System(FRACTIONS, 2, noughts, uppers)
        self.assertEqual((noughts, uppers), ([place(0)], [place(1)]))
        noughts.append(place(1))
        uppers.clear()
        self.assertEqual(system, System(FRACTIONS, 2, [place(0)], [place(1)]))
        self.assertEqual(len(system), 2)

    def test_what_was_told_may_change(self):
        system = System(FRACTIONS, 2, [place(0)], [place(1)])
        for told in (system.noughts(), system.uppers()):
            told.append(None)
            told[0] = None
        self.assertEqual((system.noughts(), system.uppers()), ([place(0)], [place(1)]))
        self.assertIsNot(system.noughts(), system.noughts())
        self.assertIsNot(system.uppers(), system.uppers())
        system = System(FRACTIONS, 2, [])
        system.noughts().append(None)
        system.uppers().append(None)
        self.assertEqual(len(system), 0)

    def test_a_refused_list_stays(self):
        wishes = [place(0), None]
        with self.assertRaises(NoSystem):
            System(FRACTIONS, 2, wishes)
        self.assertEqual(wishes, [place(0), None])
        wishes.pop()
        self.assertEqual(System(FRACTIONS, 2, wishes).noughts(), [place(0)])


class Equality(unittest.TestCase):
    def test_equal(self):
        one = System(FRACTIONS, 3, [place(0), place(1)], [place(2)])
        self.assertTrue(one == System(Field(0), 3, [place(0), place(1)], [place(2)]))
        self.assertFalse(one != System(Field(0), 3, [place(0), place(1)], [place(2)]))
        self.assertTrue(System(SEVEN, 3, []) == System(SEVEN, 3, [], []))

    def test_unlike(self):
        one = System(FRACTIONS, 3, [place(0), place(1)], [place(2), place(0)])
        for other in [System(FRACTIONS, 4, [place(0), place(1)], [place(2), place(0)]),
                      System(FRACTIONS, 3, [place(0)], [place(2), place(0)]),
                      System(FRACTIONS, 3, [place(0), place(1)], [place(2)]),
                      System(FRACTIONS, 3, [place(0), place(1)]),
                      System(FRACTIONS, 3, [place(0), place(2)], [place(2), place(0)]),
                      System(FRACTIONS, 3, [place(0), place(1)], [place(1), place(0)]),
                      System(FRACTIONS, 3, [place(1), place(0)], [place(2), place(0)]),
                      System(FRACTIONS, 3, [place(0), place(1)], [place(0), place(2)]),
                      System(FRACTIONS, 3, [place(2), place(0)], [place(0), place(1)])]:
            self.assertFalse(one == other)
            self.assertTrue(one != other)
        self.assertFalse(System(FRACTIONS, 2, []) == System(SEVEN, 2, []))
        self.assertFalse(System(Field(5), 2, []) == System(SEVEN, 2, []))

    def test_never_equal_to_anything_else(self):
        for thing in odd_things() + [0, FRACTIONS, place(0)]:
            with self.subTest(thing=repr(thing)):
                self.assertFalse(System(FRACTIONS, 1, []) == thing)
                self.assertFalse(System(FRACTIONS, 1, [place(0)]) == thing)


class Renamed(unittest.TestCase):
    def test_each_sum_is(self):
        system = System(FRACTIONS, 3, [place(0), Sum(FRACTIONS, [((0, 1), ONE)])], [place(2)])
        self.assertEqual(system.renamed([2, 0, 1]),
                         System(FRACTIONS, 3, [place(2), Sum(FRACTIONS, [((0, 2), ONE)])], [place(1)]))
        self.assertEqual(system.renamed(order=[0, 1, 2]), system)

    def test_fillings_move_along_and_back(self):
        chance = seeded(9)
        for field in SOME_FIELDS:
            for order in itertools.permutations(range(4)):
                noughts = [some_sum(field, 4, 3, chance) for _ in range(2)]
                uppers = [some_sum(field, 4, 3, chance)] if field.prime() == 0 else []
                system = System(field, 4, noughts, uppers)
                moved = system.renamed(list(order))
                for sided in (False, True):
                    wanted = sorted(tuple(row[order.index(at)] for at in range(4)) for row in fillings(system, sided))
                    self.assertEqual(fillings(moved, sided), wanted)
                self.assertEqual(moved.renamed([order.index(at) for at in range(4)]), system)

    def test_of_sixty_places(self):
        system = System(SEVEN, 60, [place(0, SEVEN)])
        self.assertEqual(system.renamed(list(range(59, -1, -1))), System(SEVEN, 60, [place(59, SEVEN)]))

    def test_the_order_stays(self):
        order = [1, 0]
        System(SEVEN, 2, [place(0, SEVEN)]).renamed(order)
        self.assertEqual(order, [1, 0])

    def test_refused(self):
        for system in (System(FRACTIONS, 3, []), System(SEVEN, 3, [place(0, SEVEN)])):
            for thing in odd_things() + [[0, 1], [0, 1, 2, 3], [0, 1, 1], [0, 1, 3], [0, 1, -1], [0, True, 2],
                                         [False, 1, 2], (0, 1, 2), [0, 1, None], [1, 2, 3], "012", [0, 1, "2"],
                                         {0: 0, 1: 1, 2: 2}, [0, 1, Stubborn()], [0, 1, 2, 2], 0]:
                with self.subTest(thing=repr(thing)), self.assertRaises(NoOrder):
                    system.renamed(thing)


if __name__ == "__main__":
    unittest.main()
