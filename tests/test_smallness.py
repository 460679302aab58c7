"""Small papers by likenesses (point 26, and 2 and 3)."""

import copy
import unittest

from falsesums.errors import NoDegree, NoField, NoLikeness, NoShowing, NoWorths, TooMany
from falsesums.fields import Field
from falsesums.likenesses import pair_classes, product_classes
from falsesums.papers import lets_showing, lets_worths
from falsesums.smallness import small, whole_showing, whole_worths
from falsesums.sums import Sum
from falsesums.systems import System
from falsesums.telling import told
from tests.helper import (FRACTIONS, PRIMES, Stubborn, alike_system, constant, guests, linear, odd_things, place, seeded,
                          showing_by_hand, swapped_guests, swapped_rooms, turned, worths_by_hand)

ONE = (1, 1)
MINUS = (-1, 1)
NO_DEGREES = [-1, 301, 10 ** 40, 1.0] + odd_things()


def likenesses_of_guests(many, rooms):
    """Two neighbours swapped, of guests and of rooms: one behind the other these make all."""
    return ([swapped_guests(many, rooms, at, at + 1) for at in range(many - 1)]
            + [swapped_rooms(many, rooms, at, at + 1) for at in range(rooms - 1)])


def half(places):
    """All places together should be half of an odd number."""
    return System(FRACTIONS, places, [linear(FRACTIONS, range(places), 0).plus(constant(FRACTIONS, -places, 2))])


def spread_showing(system, likenesses, degree, paper):
    """The sums to which the classes' shares spread."""
    shares = {(number, product): share for number, product, share in paper}
    terms = [[] for _ in system.noughts()]
    for listed in pair_classes(system, likenesses, degree):
        if listed[0] in shares:
            for number, product in listed:
                terms[number].append((product, shares[listed[0]]))
    return [Sum(FRACTIONS, listed) for listed in terms]


def spread_worths(system, likenesses, degree, paper):
    numbers = dict(paper)
    return {product: numbers[listed[0]] for listed in product_classes(system, likenesses, degree) for product in listed}


class Looking(unittest.TestCase):
    def word_of(self, system, likenesses, degree):
        """The word that is told, the small paper and the whole one looked at."""
        before = copy.deepcopy(likenesses)
        found = small(system, likenesses, degree)
        self.assertEqual(likenesses, before)
        self.assertIs(type(found), tuple)
        word, paper = found
        self.assertIs(type(paper), list)
        copied = copy.copy(paper)
        if word == "showing":
            firsts = [listed[0] for listed in pair_classes(system, likenesses, degree)]
            at = [firsts.index((number, product)) for number, product, share in paper]
            self.assertEqual(at, sorted(set(at)))
            self.assertTrue(all(FRACTIONS.is_number(share) and share[0] for number, product, share in paper))
            whole = whole_showing(system, likenesses, degree, paper)
            self.assertEqual(whole, spread_showing(system, likenesses, degree, paper))
            self.assertTrue(showing_by_hand(system, degree, whole))
            self.assertIs(lets_showing(system, degree, whole), True)
            self.assertRaises(NoWorths, whole_worths, system, likenesses, degree, paper)
        else:
            self.assertEqual(word, "worths")
            firsts = [listed[0] for listed in product_classes(system, likenesses, degree)]
            self.assertEqual([product for product, number in paper], firsts)
            whole = whole_worths(system, likenesses, degree, paper)
            self.assertEqual(whole, spread_worths(system, likenesses, degree, paper))
            self.assertIs(lets_worths(system, degree, whole), True)
            if len(whole) < 100:
                self.assertTrue(worths_by_hand(system, degree, whole))
            self.assertRaises(NoShowing, whole_showing, system, likenesses, degree, paper)
        self.assertEqual(paper, copied)
        return word


class Small(Looking):
    def test_just_where_told_tells_it(self):
        chance = seeded(260)
        words = []
        for _ in range(120):
            system, orders = alike_system(FRACTIONS, chance.randint(2, 4), chance, True) if chance.random() < 0.8 else (
                System(FRACTIONS, 3, [linear(FRACTIONS, range(3), 1), linear(FRACTIONS, range(3), chance.randint(0, 5))]),
                [turned(3)])
            degree = chance.randint(0, 4)
            for likenesses in ([], orders, orders + orders):
                words.append(self.word_of(system, likenesses, degree))
                self.assertEqual(words[-1], told(system, degree)[0])
        self.assertGreater(words.count("showing"), 50)
        self.assertGreater(words.count("worths"), 50)

    def test_halves(self):
        for places in range(2, 7):
            orders = [turned(places), [1, 0] + list(range(2, places))]
            if places % 2:
                for degree in range(places + 3):
                    word = self.word_of(half(places), orders, degree)
                    self.assertEqual(word, "showing" if degree > places else "worths")
                self.assertLessEqual(len(small(half(places), orders, places + 1)[1]), places + 1)

    def test_guests_and_rooms(self):
        for many, rooms in ((2, 1), (3, 2), (4, 3), (7, 6), (7, 8)):
            word, paper = small(guests(FRACTIONS, many, rooms), likenesses_of_guests(many, rooms), 1)
            share = FRACTIONS.made(1, rooms - many)
            self.assertEqual((word, paper), ("showing", [(0, (), share), (many, (), FRACTIONS.times(share, MINUS))]))
            self.assertEqual(self.word_of(guests(FRACTIONS, many, rooms), likenesses_of_guests(many, rooms), 1), "showing")
        for many, rooms in ((2, 2), (3, 3)):
            for degree in (0, 1, 2, 3):
                self.assertEqual(self.word_of(guests(FRACTIONS, many, rooms), likenesses_of_guests(many, rooms), degree), "worths")

    def test_by_hand(self):
        # Each of two places should be 1, but not their sum 2: 1 is (sum of the first two) less the last.
        one, other = linear(FRACTIONS, [0], 1), linear(FRACTIONS, [1], 1)
        system = System(FRACTIONS, 2, [one, other, linear(FRACTIONS, [0, 1], 1)])
        self.assertEqual(small(system, [[1, 0]], 1), ("showing", [(0, (), MINUS), (2, (), ONE)]))
        self.assertEqual(small(System(FRACTIONS, 2, [linear(FRACTIONS, [0, 1], 1)]), [[1, 0]], 1),
                         ("worths", [((), ONE), ((0,), (1, 2))]))

    def test_wishes_with_great_and_broken_numbers(self):
        chance = seeded(261)
        for _ in range(20):
            system, orders = alike_system(FRACTIONS, 3, chance)
            factor = FRACTIONS.made(chance.randint(1, 10 ** 50), chance.randint(1, 10 ** 50))
            system = System(FRACTIONS, 3, [nought.scaled(factor) for nought in system.noughts()])
            self.assertEqual(self.word_of(system, orders, 2), told(system, 2)[0])

    def test_far_beyond_what_is_told_whole(self):
        # 19650 products and 17164 pairs in a few classes.
        system, orders = guests(FRACTIONS, 7, 7), likenesses_of_guests(7, 7)
        with self.assertRaises(TooMany):
            told(system, 3)
        word, paper = small(system, orders, 3)
        self.assertEqual(word, "worths")
        self.assertEqual(len(whole_worths(system, orders, 3, paper)), 19650)
        system, orders = half(13), [turned(13), [1, 0] + list(range(2, 13))]
        self.assertEqual(small(system, orders, 13)[0], "worths")
        word, paper = small(system, orders, 14)
        self.assertEqual(word, "showing")
        self.assertIs(lets_showing(system, 14, whole_showing(system, orders, 14, paper)), True)

    def test_without_noughts(self):
        for places, degree in ((1, 0), (3, 2), (3, 300)):
            self.assertEqual(self.word_of(System(FRACTIONS, places, []), [turned(places)], degree), "worths")

    def test_told_anew_and_by_name(self):
        for system, degree in ((half(3), 3), (half(3), 4)):
            first = small(degree=degree, likenesses=[turned(3)], system=system)
            second = copy.deepcopy(first)
            first[1].clear()
            self.assertEqual(small(system, [turned(3)], degree), second)

    def test_called_otherwise(self):
        chance = seeded(262)
        for _ in range(30):
            system, orders = alike_system(FRACTIONS, 4, chance)
            new = list(range(4))
            chance.shuffle(new)
            old = [new.index(at) for at in range(4)]
            moved = [[new[order[old[at]]] for at in range(4)] for order in orders]
            for degree in (1, 2, 3):
                self.assertEqual(small(system.renamed(new), moved, degree)[0], small(system, orders, degree)[0])


class Refusals(unittest.TestCase):
    ASKED = (lambda *asked: small(*asked), lambda *asked: whole_showing(*asked, None), lambda *asked: whole_worths(*asked, None))

    def refused(self, kind, *asked):
        for ask in self.ASKED:
            with self.subTest(asked=repr(asked[1:])), self.assertRaises(kind):
                ask(*asked)

    def test_no_field(self):
        for prime in PRIMES:
            for likenesses in ([], [[0, 1]], None, [None]):
                for degree in (0, None, 301):
                    self.refused(NoField, System(Field(prime), 2, []), likenesses, degree)

    def test_no_likeness(self):
        system = System(FRACTIONS, 2, [place(0)])
        for thing in [one for one in odd_things() if not isinstance(one, list)] + [[[1, 0]], [[0, 1], None], [Stubborn()], [0]]:
            for degree in (0, None, 301):
                self.refused(NoLikeness, system, thing, degree)
        self.refused(NoLikeness, System(FRACTIONS, 60, [place(0)]), [turned(60)], 300)

    def test_no_degree(self):
        for degree in NO_DEGREES:
            self.refused(NoDegree, System(FRACTIONS, 2, []), [[1, 0]], degree)
            self.refused(NoDegree, System(FRACTIONS, 60, []), [], degree)

    def test_too_many_products(self):
        self.refused(TooMany, System(FRACTIONS, 50, []), [turned(50)], 3)
        self.refused(TooMany, System(FRACTIONS, 60, []), [], 300)

    def test_too_many_pairs(self):
        # 20000 pairs at degree 2, then one more.
        both = Sum(FRACTIONS, [((0, 1), ONE)])
        wishes = [Sum(FRACTIONS)] * 10 + [linear(FRACTIONS, range(60), 0)] * 27 + [both.plus(linear(FRACTIONS, range(60), 0))] * 43
        swapped = [1, 0] + list(range(2, 60))
        # All but the first two places are alike.
        last = [0, 1] + [(at - 1) % 58 + 2 for at in range(2, 60)]
        other = [0, 1, 3, 2] + list(range(4, 60))
        self.assertEqual(small(System(FRACTIONS, 60, wishes), [swapped, last, other], 2)[0], "worths")
        self.refused(TooMany, System(FRACTIONS, 60, wishes + [both]), [swapped, last, other], 2)

    def test_classes_of_products(self):
        def cycles(places, lengths):
            order, start = list(range(places)), 0
            for length in lengths:
                for at in range(length):
                    order[start + at] = start + (at + 1) % length
                start += length
            return order

        for places, lengths, many in ((38, (3, 3), 600), (40, (6, 2), 601), (43, (10,), 601), (35, (), 631)):
            system, orders = System(FRACTIONS, places, []), [cycles(places, lengths)]
            found = product_classes(system, orders, 2)
            self.assertEqual(len(found), many)
            if many <= 600:
                self.assertEqual(small(system, orders, 2)[0], "worths")
            else:
                with self.assertRaises(TooMany):
                    small(system, orders, 2)
            # Whole papers are made of any small ones.
            paper = [(listed[0], ONE if listed[0] == () else (0, 1)) for listed in found]
            self.assertEqual(whole_worths(system, orders, 2, paper)[()], ONE)
            with self.assertRaises(NoShowing):
                whole_showing(system, orders, 2, [])

    def test_classes_of_pairs(self):
        # 2000 pairs at degree 2, each alone, then one more.
        wishes = [constant(FRACTIONS, 1)] * 43 + [place(0)] * 2 + [Sum(FRACTIONS, [((0, 1), ONE)])] * 2
        system, more = System(FRACTIONS, 9, wishes), System(FRACTIONS, 9, wishes + wishes[-1:])
        self.assertEqual(small(system, [], 2)[0], "showing")
        with self.assertRaises(TooMany):
            small(more, [], 2)
        self.assertEqual(len(pair_classes(more, [], 2)), 2001)
        showing = whole_showing(more, [], 2, [(5, (), ONE)])
        self.assertIs(lets_showing(more, 2, showing), True)
        with self.assertRaises(NoWorths):
            whole_worths(more, [], 2, [])
        # With likenesses they are fewer.
        self.assertEqual(small(more, [[0, 1] + [(at - 1) % 7 + 2 for at in range(2, 9)]], 2)[0], "showing")


class WholeShowing(unittest.TestCase):
    SYSTEM = half(3)
    ORDERS = [turned(3)]

    def test_what_is_none(self):
        paper = small(self.SYSTEM, self.ORDERS, 4)[1]
        self.assertEqual(len(paper), 4)
        wrong = [thing for thing in odd_things()] + [0, tuple(paper), {1: paper}, paper + [paper[-1]], paper[::-1], [paper]]
        for at, (number, product, share) in enumerate(paper):
            rest = [paper[:at], paper[at + 1:]]
            wrong += [rest[0] + rest[1], rest[0] + [paper[at], paper[at]] + rest[1]]
            for one in odd_things() + [0, (number, product), (number, product, share, share), [number, product, share],
                                       (number, product, FRACTIONS.times(share, (2, 1))), (number, product, (0, 1)),
                                       (number, product, share[0]), (number, product, (2 * share[0], 2 * share[1])),
                                       (number + 1, product, share), (-1, product, share), (False, product, share),
                                       (None, product, share), (Stubborn(), product, share), (number, list(product), share),
                                       (number, Stubborn(), share), (number, product, Stubborn()), (number, (7,), share),
                                       (number, product + (0,), share)]:
                wrong.append(rest[0] + [one] + rest[1])
            if len(product) == 1 or len(product) == 2:
                # Another pair of the same class, not the first one.
                wrong.append(rest[0] + [(number, (1,) if len(product) == 1 else (1, 2), share)] + rest[1])
        for thing in wrong:
            with self.subTest(thing=repr(thing)), self.assertRaises(NoShowing):
                whole_showing(self.SYSTEM, self.ORDERS, 4, thing)
        with self.assertRaises(NoShowing):
            whole_showing(self.SYSTEM, self.ORDERS, 3, paper)
        with self.assertRaises(NoShowing):
            whole_showing(self.SYSTEM, [], 4, paper)

    def test_a_nought_that_stands_for_a_share(self):
        system = System(FRACTIONS, 1, [constant(FRACTIONS, 1), place(0)])
        self.assertEqual(whole_showing(system, [], 1, [(0, (), ONE)]), [constant(FRACTIONS, 1), Sum(FRACTIONS)])
        # A share of nought, a class twice, pairs that are none.
        for paper in ([(0, (), ONE), (1, (), (0, 1))], [(0, (), (1, 2)), (0, (), (1, 2))], [(7, (), ONE)], [(0, (1,), ONE)],
                      [(0, (), ONE), (2, (), ONE)]):
            for degree in (0, 1):
                with self.assertRaises(NoShowing):
                    whole_showing(system, [], degree, paper)
        with self.assertRaises(NoShowing):
            whole_showing(System(FRACTIONS, 1, [constant(FRACTIONS, 1)]), [], 0, [(1, (), ONE)])

    def test_told_anew_and_by_name(self):
        paper = small(self.SYSTEM, self.ORDERS, 4)[1]
        first = whole_showing(small_showing=paper, degree=4, likenesses=self.ORDERS, system=self.SYSTEM)
        second = list(first)
        first.clear()
        self.assertEqual(whole_showing(self.SYSTEM, self.ORDERS, 4, paper), second)


class WholeWorths(unittest.TestCase):
    SYSTEM = half(3)
    ORDERS = [turned(3)]

    def test_what_are_none(self):
        paper = small(self.SYSTEM, self.ORDERS, 3)[1]
        self.assertEqual([product for product, number in paper], [(), (0,), (0, 1), (0, 1, 2)])
        wrong = [thing for thing in odd_things()] + [0, tuple(paper), dict(paper), paper + [paper[-1]], paper[::-1], [paper]]
        for at, (product, number) in enumerate(paper):
            rest = [paper[:at], paper[at + 1:]]
            wrong += [rest[0] + rest[1], rest[0] + [paper[at], paper[at]] + rest[1]]
            for one in odd_things() + [0, (product,), (product, number, number), [product, number], (product, (5, 1)),
                                       (product, number[0]), (product, (2 * number[0], 2 * number[1])), (product, None),
                                       (product, Stubborn()), (Stubborn(), number), (list(product), number), ((7,), number)]:
                wrong.append(rest[0] + [one] + rest[1])
            if len(product) == 1 or len(product) == 2:
                wrong.append(rest[0] + [((1,) if len(product) == 1 else (1, 2), number)] + rest[1])
        for thing in wrong:
            with self.subTest(thing=repr(thing)), self.assertRaises(NoWorths):
                whole_worths(self.SYSTEM, self.ORDERS, 3, thing)
        with self.assertRaises(NoWorths):
            whole_worths(self.SYSTEM, self.ORDERS, 2, paper)
        with self.assertRaises(NoWorths):
            whole_worths(self.SYSTEM, [], 3, paper)

    def test_any_that_are_worths(self):
        system = System(FRACTIONS, 2, [])
        for number in ((0, 1), (7, 3), MINUS):
            self.assertEqual(whole_worths(system, [[1, 0]], 1, [((), ONE), ((0,), number)]), {(): ONE, (0,): number, (1,): number})

    def test_told_anew_and_by_name(self):
        paper = small(self.SYSTEM, self.ORDERS, 3)[1]
        first = whole_worths(small_worths=paper, degree=3, likenesses=self.ORDERS, system=self.SYSTEM)
        second = dict(first)
        first.clear()
        self.assertEqual(whole_worths(self.SYSTEM, self.ORDERS, 3, paper), second)


if __name__ == "__main__":
    unittest.main()
