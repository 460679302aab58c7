"""Likenesses and classes (point 25, and 2 and 3)."""

import copy
import itertools
import unittest

from falsesums.errors import NoDegree, NoLikeness, TooMany
from falsesums.fields import Field
from falsesums.likenesses import is_likeness, pair_classes, product_classes
from falsesums.sums import Sum
from falsesums.systems import System
from tests.helper import (FRACTIONS, SOME_FIELDS, Stubborn, alike_system, constant, guests, linear, odd_things, place,
                          products_by_hand, seeded, some_system, swapped_guests, swapped_rooms, turned)

ONE = (1, 1)
TWO = Field(2)
SEVEN = Field(7)
NO_DEGREES = [-1, 301, 10 ** 40, 1.0] + odd_things()


def is_likeness_by_hand(system, order):
    """Each renamed wish is taken out of the wishes, one by one."""
    renamed = system.renamed(order)
    for wishes, others in ((renamed.noughts(), system.noughts()), (renamed.uppers(), system.uppers())):
        for wish in wishes:
            if wish not in others:
                return False
            others.remove(wish)
    return True


def likenesses_by_hand(system):
    return [list(order) for order in itertools.permutations(range(system.places())) if is_likeness_by_hand(system, list(order))]


def by_size(product):
    return (len(product), product)


def of_pair(pair):
    return (pair[0], by_size(pair[1]))


def renamed_by_hand(product, order):
    return tuple(sorted(order[at] for at in product))


def led_pair(system, pair, order):
    """Of alike noughts the first is led to the first, and so on."""
    noughts = system.noughts()
    nought = noughts[pair[0]]
    which = noughts[:pair[0]].count(nought)
    goals = [number for number, other in enumerate(noughts) if other == nought.renamed(order)]
    return (goals[which], renamed_by_hand(pair[1], order))


def classes_by_hand(things, leads, sorted_by):
    """All that each thing is led to, over and over; the classes sorted."""
    left, found = sorted(things, key=sorted_by), []
    while left:
        listed, new = [], [left[0]]
        while new:
            thing = new.pop()
            if thing not in listed:
                listed.append(thing)
                new += [lead(thing) for lead in leads]
        found.append(sorted(listed, key=sorted_by))
        left = [thing for thing in left if thing not in listed]
    return found


def pairs_by_hand(system, degree):
    return [(number, product) for number, nought in enumerate(system.noughts())
            for product in products_by_hand(system.places(), degree - nought.degree())]


class IsLikeness(unittest.TestCase):
    def test_all_orders(self):
        chance = seeded(250)
        found = 0
        for field in SOME_FIELDS:
            for turn in range(12):
                system = alike_system(field, 4, chance, True)[0] if turn % 2 else some_system(field, chance, uppers=2)
                for order in itertools.permutations(range(system.places())):
                    wanted = is_likeness_by_hand(system, list(order))
                    found += wanted
                    self.assertIs(is_likeness(system, list(order)), wanted)
        self.assertGreater(found, 100)

    def test_guests_and_rooms(self):
        for field in SOME_FIELDS:
            system = guests(field, 3, 2)
            for order in (swapped_rooms(3, 2, 0, 1), swapped_guests(3, 2, 0, 2), swapped_guests(3, 2, 1, 2), list(range(6))):
                self.assertIs(is_likeness(system, order), True)
            self.assertIs(is_likeness(system, [1, 0, 2, 3, 4, 5]), False)
            self.assertIs(is_likeness(system, turned(6)), False)

    def test_how_often_each_wish_stands(self):
        for field in SOME_FIELDS:
            one, other = place(0, field), place(1, field)
            self.assertIs(is_likeness(System(field, 2, [one, other]), [1, 0]), True)
            self.assertIs(is_likeness(System(field, 2, [one, one, other]), [1, 0]), False)
            self.assertIs(is_likeness(System(field, 2, [one, other, other, one]), [1, 0]), True)
            self.assertIs(is_likeness(System(field, 2, [one]), [1, 0]), False)
            self.assertIs(is_likeness(System(field, 2, []), [1, 0]), True)

    def test_uppers(self):
        one, other = place(0), place(1)
        self.assertIs(is_likeness(System(FRACTIONS, 2, [], [one]), [1, 0]), False)
        self.assertIs(is_likeness(System(FRACTIONS, 2, [], [one, other]), [1, 0]), True)
        self.assertIs(is_likeness(System(FRACTIONS, 2, [one], [other]), [1, 0]), False)
        self.assertIs(is_likeness(System(FRACTIONS, 2, [one, other], [other]), [1, 0]), False)
        self.assertIs(is_likeness(System(FRACTIONS, 2, [one, other], [other, one]), [1, 0]), True)

    def test_anything_else(self):
        system = System(SEVEN, 3, [])
        for thing in odd_things() + [0, (0, 1, 2), [0, 1], [0, 1, 2, 3], [0, 1, 1], [0, 1, 3], [0, 1, -1], [True, 0, 2],
                                     [0, 1, 2.0], [0, 1, None], ["0", "1", "2"], [0, 1, Stubborn()]]:
            with self.subTest(thing=repr(thing)):
                self.assertIs(is_likeness(system, thing), False)
        self.assertIs(is_likeness(thing=[2, 0, 1], system=system), True)


class Classes(unittest.TestCase):
    def looked_at(self, system, likenesses, degree):
        before = copy.deepcopy(likenesses)
        found = product_classes(system, likenesses, degree)
        leads = [lambda product, order=order: renamed_by_hand(product, order) for order in likenesses]
        self.assertEqual(found, classes_by_hand(products_by_hand(system.places(), degree), leads, by_size))
        pairs = pair_classes(system, likenesses, degree)
        leads = [lambda pair, order=order: led_pair(system, pair, order) for order in likenesses]
        self.assertEqual(pairs, classes_by_hand(pairs_by_hand(system, degree), leads, of_pair))
        self.assertEqual(likenesses, before)
        return found, pairs

    def test_by_hand(self):
        chance = seeded(251)
        smaller = 0
        for field in SOME_FIELDS:
            for _ in range(15):
                system, orders = alike_system(field, chance.randint(2, 5), chance, True)
                for degree in (0, 1, 2, 3, 300):
                    products, pairs = self.looked_at(system, orders, degree)
                    smaller += len(pairs) < len(pairs_by_hand(system, degree))
        self.assertGreater(smaller, 50)

    def test_each_in_just_one(self):
        system = guests(SEVEN, 3, 2)
        orders = [swapped_rooms(3, 2, 0, 1), swapped_guests(3, 2, 0, 1)]
        for degree in range(4):
            products, pairs = self.looked_at(system, orders, degree)
            self.assertEqual(sorted(sum(products, []), key=by_size), products_by_hand(6, degree))
            self.assertEqual(sorted(sum(pairs, []), key=of_pair), pairs_by_hand(system, degree))

    def test_no_likenesses(self):
        system = guests(SEVEN, 3, 2)
        self.assertEqual(product_classes(system, [], 2), [[product] for product in products_by_hand(6, 2)])
        self.assertEqual(pair_classes(system, [], 2), [[pair] for pair in pairs_by_hand(system, 2)])
        self.assertEqual(pair_classes(System(SEVEN, 2, []), [[1, 0]], 2), [])
        # The order that changes nothing is a likeness, too.
        self.assertEqual(product_classes(system, [list(range(6))] * 2, 2), product_classes(system, [], 2))

    def test_all_places_alike(self):
        system = System(SEVEN, 5, [linear(SEVEN, range(5), 2)])
        orders = [turned(5), [1, 0, 2, 3, 4]]
        for degree in range(7):
            found = product_classes(system, orders, degree)
            self.assertEqual([len(listed[0]) for listed in found], list(range(min(degree, 5) + 1)))
            self.assertEqual(len(pair_classes(system, orders, degree)), min(degree, 6))

    def test_turned(self):
        system = System(SEVEN, 4, [])
        self.assertEqual(product_classes(system, [turned(4)], 2),
                         [[()], [(0,), (1,), (2,), (3,)], [(0, 1), (0, 3), (1, 2), (2, 3)], [(0, 2), (1, 3)]])
        self.assertEqual(product_classes(system, [turned(4, 2)], 1), [[()], [(0,), (2,)], [(1,), (3,)]])

    def test_one_behind_the_other(self):
        # Neither order leads place 0 to place 2, but both do.
        system = System(SEVEN, 3, [])
        self.assertEqual(product_classes(system, [[1, 0, 2], [0, 2, 1]], 1), [[()], [(0,), (1,), (2,)]])
        self.assertEqual(product_classes(system, [[1, 2, 0]], 1), [[()], [(0,), (1,), (2,)]])

    def test_alike_wishes_are_led_the_first_to_the_first(self):
        one, other = place(0, SEVEN), place(1, SEVEN)
        system = System(SEVEN, 2, [one, other, one, other])
        self.assertEqual(pair_classes(system, [[1, 0]], 1), [[(0, ()), (1, ())], [(2, ()), (3, ())]])
        system = System(SEVEN, 2, [one, one, other, other])
        self.assertEqual(pair_classes(system, [[1, 0]], 1), [[(0, ()), (2, ())], [(1, ()), (3, ())]])
        system = System(SEVEN, 2, [one, other, other, one])
        self.assertEqual(pair_classes(system, [[1, 0]], 2)[0], [(0, ()), (1, ())])
        # A wish that a likeness leaves as it is: each one of several alike stands for itself.
        both = linear(SEVEN, [0, 1], 1)
        system = System(SEVEN, 2, [both, both])
        self.assertEqual(pair_classes(system, [[1, 0]], 2),
                         [[(0, ())], [(0, (0,)), (0, (1,))], [(1, ())], [(1, (0,)), (1, (1,))]])

    def test_within_a_degree(self):
        system = System(SEVEN, 3, [constant(SEVEN, 1), place(0, SEVEN), Sum(SEVEN, [((0, 1, 2), ONE)]), Sum(SEVEN)])
        found = [pair for listed in pair_classes(system, [], 1) for pair in listed]
        self.assertEqual(found, [(0, ()), (0, (0,)), (0, (1,)), (0, (2,)), (1, ()), (3, ()), (3, (0,)), (3, (1,)), (3, (2,))])
        self.assertEqual(pair_classes(System(SEVEN, 3, [place(0, SEVEN)]), [], 0), [])

    def test_no_likeness(self):
        system = System(SEVEN, 2, [place(0, SEVEN)])
        good = [0, 1]
        wrong = [thing for thing in odd_things() if not isinstance(thing, list)]
        wrong += [0, (good,), [[1, 0]], [good, [1, 0]], [good, (0, 1)], [good, None], [good, 0], [good, Stubborn()], good, [[]],
                  [[0]], [[0, 1, 2]], [[0, True]], {0: good}]
        for thing in wrong:
            for degree in (0, None, 301, 300):
                with self.subTest(thing=repr(thing)), self.assertRaises(NoLikeness):
                    product_classes(system, thing, degree)
                with self.subTest(thing=repr(thing)), self.assertRaises(NoLikeness):
                    pair_classes(system, thing, degree)
        wide = System(SEVEN, 60, [place(0, SEVEN)])
        for classes in (product_classes, pair_classes):
            with self.assertRaises(NoLikeness):
                classes(wide, [turned(60)], 300)

    def test_no_degree(self):
        for system in (System(SEVEN, 2, []), System(SEVEN, 60, [Sum(SEVEN)])):
            for degree in NO_DEGREES:
                for classes in (product_classes, pair_classes):
                    with self.subTest(degree=repr(degree)), self.assertRaises(NoDegree):
                        classes(system, [], degree)

    def test_too_many_products(self):
        # 19650 products of 49 places, 20876 of 50.
        found = product_classes(System(SEVEN, 49, []), [turned(49), [1, 0] + list(range(2, 49))], 3)
        self.assertEqual([len(listed) for listed in found], [1, 49, 1176, 18424])
        for places, degree in ((50, 3), (60, 4), (60, 300), (15, 15)):
            with self.assertRaises(TooMany):
                product_classes(System(SEVEN, places, []), [], degree)
        self.assertEqual(len(product_classes(System(SEVEN, 14, []), [], 300)), 2 ** 14)

    def test_too_many_pairs(self):
        self.assertEqual(len(pair_classes(System(TWO, 49, [Sum(TWO)] * 200), [], 1)), 10000)
        # 60 places: 61 products up to one place, 1831 up to two.
        bound = [Sum(TWO)] * 10 + [place(0, TWO)] * 27 + [Sum(TWO, [((0, 1), ONE)])] * 43
        self.assertEqual(10 * 1831 + 27 * 61 + 43, 20000)
        self.assertEqual(len(pair_classes(System(TWO, 60, bound), [], 2)), 20000)
        with self.assertRaises(TooMany):
            pair_classes(System(TWO, 60, bound + [Sum(TWO, [((0, 1), ONE)])]), [], 2)
        # Only what is told counts.
        self.assertEqual(len(product_classes(System(TWO, 60, [Sum(TWO)] * 200), [], 2)), 1831)
        self.assertEqual(pair_classes(System(TWO, 60, []), [], 300), [])
        tall = Sum(TWO, [(tuple(range(58)), ONE)])
        self.assertEqual(len(pair_classes(System(TWO, 60, [tall]), [], 60)), 1831)

    def test_told_anew_and_by_name(self):
        system = System(SEVEN, 2, [place(0, SEVEN), place(1, SEVEN)])
        for classes in (product_classes, pair_classes):
            first = classes(degree=2, likenesses=[[1, 0]], system=system)
            second = copy.deepcopy(first)
            self.assertEqual((type(first), type(first[0]), type(first[0][0])), (list, list, tuple))
            first[0].clear()
            first.clear()
            self.assertEqual(classes(system, [[1, 0]], 2), second)

    def test_called_otherwise(self):
        # Renamed, system and likenesses, the classes are the renamed ones.
        chance = seeded(252)
        for _ in range(20):
            system, orders = alike_system(SEVEN, 4, chance)
            new = list(range(4))
            chance.shuffle(new)
            old = [new.index(at) for at in range(4)]
            moved = [[new[order[old[at]]] for at in range(4)] for order in orders]
            found = [sorted((renamed_by_hand(product, new) for product in listed), key=by_size)
                     for listed in product_classes(system, orders, 3)]
            self.assertEqual(product_classes(system.renamed(new), moved, 3), sorted(found, key=lambda listed: by_size(listed[0])))
            self.assertEqual(likenesses_by_hand(system.renamed(new)),
                             sorted([new[order[old[at]]] for at in range(4)] for order in likenesses_by_hand(system)))


if __name__ == "__main__":
    unittest.main()
