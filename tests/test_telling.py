"""One of the two papers of the first kind (points 15 and 16, and 2 and 3)."""

import unittest

from falsesums.answers import FIRST_PRIME, prime_below
from falsesums.errors import NoDegree, TooMany
from falsesums.fields import Field
from falsesums.fillings import fillings
from falsesums.papers import lets_showing, lets_worths
from falsesums.sums import Sum
from falsesums.systems import System
from falsesums.telling import free, told
from tests.helper import (FRACTIONS, PRIMES, SOME_FIELDS, constant, guests, linear, multiples_by_hand, odd_things,
                          place, products_by_hand, reduced_by_hand, seeded, showing_by_hand, showing_is_there,
                          some_number, some_sum, some_system, worths_by_hand)

ONE = (1, 1)
TWO = Field(2)
SEVEN = Field(7)
NO_DEGREES = [-1, 301, 10 ** 40, 1.0] + odd_things()


class Telling(unittest.TestCase):
    def papers(self, system, degree):
        """What is told, looked at by hand and by what lets papers by; told is the word alone."""
        paper = told(system, degree)
        self.assertIs(type(paper), tuple)
        self.assertEqual(len(paper), 2)
        word, paper = paper
        if word == "showing":
            self.assertIs(type(paper), list)
            self.assertEqual(len(paper), len(system.noughts()))
            self.assertTrue(all(one.field() == system.field() for one in paper))
            self.assertTrue(showing_by_hand(system, degree, paper))
            self.assertIs(lets_showing(system, degree, paper), True)
        else:
            self.assertEqual(word, "worths")
            self.assertIs(type(paper), dict)
            self.assertTrue(all(system.field().is_number(number) for number in paper.values()))
            self.assertTrue(worths_by_hand(system, degree, paper))
            self.assertIs(lets_worths(system, degree, paper), True)
        return word


class Told(Telling):
    def test_just_one_is_there(self):
        chance = seeded(150)
        words = []
        for field in SOME_FIELDS:
            for _ in range(40):
                system = some_system(field, chance)
                degree = chance.randint(0, 6)
                word = self.papers(system, degree)
                words.append(word)
                self.assertEqual(word == "showing", showing_is_there(system, degree))
        self.assertGreater(words.count("showing"), 50)
        self.assertGreater(words.count("worths"), 50)

    def test_a_greater_degree_never_loses_a_showing(self):
        chance = seeded(151)
        for field in SOME_FIELDS:
            for _ in range(15):
                system = some_system(field, chance)
                words = [self.papers(system, degree) for degree in range(system.top() + 2)]
                self.assertEqual(words, sorted(words, reverse=True))
                # At the top degree just the fillings are left.
                self.assertEqual(words[system.top()], "worths" if fillings(system) else "showing")
                self.assertEqual(words[system.top() + 1], words[system.top()])

    def test_with_a_filling_always_worths(self):
        chance = seeded(152)
        for field in SOME_FIELDS:
            for _ in range(20):
                system = some_system(field, chance)
                if fillings(system):
                    for degree in (0, 1, 2, 3, 5, 300):
                        self.assertEqual(self.papers(system, degree), "worths")

    def test_each_field(self):
        for prime in [0] + PRIMES:
            field = Field(prime)
            system = System(field, 2, [linear(field, [0, 1], 1), place(0, field).times(place(1, field)),
                                       Sum(field, [((0,), ONE), ((1,), field.made(-1))])])
            # Just one is 1, and both are alike: over 2 the third wish is the first one with 1 more.
            self.assertEqual([self.papers(system, degree) for degree in (0, 1, 2, 3)],
                             ["worths"] + ["showing" if prime == 2 else "worths"] + ["showing"] * 2)

    def test_no_noughts(self):
        for field in SOME_FIELDS:
            for degree in (0, 1, 4, 300):
                self.assertEqual(self.papers(System(field, 4, []), degree), "worths")

    def test_a_nought_sum_as_a_wish(self):
        for field in SOME_FIELDS:
            for degree in (0, 1, 3):
                self.assertEqual(self.papers(System(field, 2, [Sum(field)]), degree), "worths")
                system = System(field, 2, [Sum(field), constant(field, 1), Sum(field)])
                self.assertEqual(self.papers(system, degree), "showing")

    def test_the_wish_one(self):
        for field in SOME_FIELDS:
            for number in (ONE, field.made(-1), field.made(5)):
                for degree in (0, 1, 7):
                    system = System(field, 3, [Sum(field, [((), number)])])
                    self.assertEqual(self.papers(system, degree), "showing")

    def test_the_same_wish_twice(self):
        for field in SOME_FIELDS:
            wish = linear(field, [0, 1, 2], 1)
            self.assertEqual(self.papers(System(field, 3, [wish, wish]), 2), "worths")
            other = linear(field, [0, 1, 2], 0)
            self.assertEqual(self.papers(System(field, 3, [wish, wish, other, other]), 1), "showing")

    def test_a_wish_above_the_degree(self):
        for field in SOME_FIELDS:
            system = System(field, 3, [Sum(field, [((0, 1, 2), ONE), ((), field.made(-1))]), place(0, field)])
            self.assertEqual([self.papers(system, degree) for degree in range(5)],
                             ["worths"] * 3 + ["showing"] * 2)

    def test_uppers_play_no_part(self):
        uppers = [constant(FRACTIONS, -1), Sum(FRACTIONS, [((0, 1), ONE)])]
        self.assertEqual(self.papers(System(FRACTIONS, 2, [], uppers), 2), "worths")
        self.assertEqual(self.papers(System(FRACTIONS, 2, [constant(FRACTIONS, 3)], uppers), 0), "showing")

    def test_guests_and_rooms(self):
        for field in SOME_FIELDS:
            for many, rooms in ((2, 1), (1, 2), (3, 2), (2, 3), (3, 3), (3, 4)):
                word = self.papers(guests(field, many, rooms), 1)
                unlike = (many - rooms) % field.prime() if field.prime() else many - rooms
                self.assertEqual(word, "showing" if unlike else "worths")

    def test_a_half_of_an_odd_number(self):
        # Places that come to half their number, an odd one: just one more than the places is needed.
        for places in range(1, 7):
            system = System(FRACTIONS, places, [linear(FRACTIONS, range(places), 0).plus(
                constant(FRACTIONS, -places if places % 2 else 1 - places, 2))])
            for degree in range(places + 3):
                self.assertEqual(self.papers(system, degree), "showing" if degree > places else "worths")

    def test_renamed_systems_tell_the_same_word(self):
        chance = seeded(153)
        for field in SOME_FIELDS:
            for _ in range(25):
                system = some_system(field, chance)
                order = list(range(system.places()))
                chance.shuffle(order)
                for degree in range(5):
                    self.assertEqual(self.papers(system, degree), self.papers(system.renamed(order), degree))

    def test_numbers_of_many_figures(self):
        chance = seeded(154)
        for _ in range(6):
            noughts = [Sum(FRACTIONS, [(product, FRACTIONS.made(chance.randint(-10 ** 60, 10 ** 60),
                                                                chance.randint(1, 10 ** 60)))
                                       for product in products_by_hand(3, 1)]) for _ in range(2)]
            self.assertEqual(self.papers(System(FRACTIONS, 3, noughts), 1), "worths")
            self.assertEqual(self.papers(System(FRACTIONS, 3, noughts), 4), "showing")

    def test_wishes_that_are_another_over_a_great_prime(self):
        # What is reckoned over a prime must be so over the fractions, too, whichever prime is taken.
        many = [FIRST_PRIME, 2 ** 31 - 1, 10 ** 9 + 7, 998244353, 2 ** 61 - 1]
        for number in many:
            one = place(0).scaled((number, 1))
            self.assertEqual(self.papers(System(FRACTIONS, 2, [one.plus(constant(FRACTIONS, -1))]), 1), "worths")
            self.assertEqual(self.papers(System(FRACTIONS, 2, [one.plus(constant(FRACTIONS, -1))]), 2), "showing")
            self.assertEqual(self.papers(System(FRACTIONS, 2, [one.plus(place(1)), place(1)]), 2), "worths")
            apart = [place(0).plus(constant(FRACTIONS, number)), place(0)]
            self.assertEqual(self.papers(System(FRACTIONS, 2, apart), 0), "worths")
            self.assertEqual(self.papers(System(FRACTIONS, 2, apart), 1), "showing")
            self.assertEqual(self.papers(System(FRACTIONS, 1, [constant(FRACTIONS, number)]), 0), "showing")
            self.assertEqual(self.papers(System(FRACTIONS, 1, [constant(FRACTIONS, 1, number)]), 0), "showing")


class Refusals(unittest.TestCase):
    def test_no_degree(self):
        for ask in (told, free):
            for degree in NO_DEGREES:
                for system in (System(TWO, 1, []), System(TWO, 60, [Sum(TWO)] * 200)):
                    with self.subTest(ask=ask, degree=repr(degree)), self.assertRaises(NoDegree):
                        ask(system, degree)

    def test_how_many_products(self):
        for ask in (told, free):
            for places, degree in ((35, 2), (10, 5), (16, 3), (12, 4), (10, 300), (60, 2), (60, 300)):
                with self.subTest(places=places, degree=degree), self.assertRaises(TooMany):
                    ask(System(TWO, places, []), degree)
        for places, degree, many in ((34, 2, 596), (15, 3, 576), (11, 4, 562), (9, 9, 512), (9, 300, 512), (60, 1, 61)):
            for field in (TWO, FRACTIONS):
                word, worths = told(System(field, places, [place(0, field)]), degree)
                self.assertEqual((word, len(worths)), ("worths", many))

    def test_how_many_pairs(self):
        for field in (TWO, FRACTIONS):
            for noughts, kept in (([Sum(field)] * 181 + [place(0, field)] * 9, True),
                                  ([Sum(field)] * 181 + [place(0, field)] * 10, False),
                                  ([place(0, field)] * 9 + [Sum(field)] * 181, True),
                                  ([place(0, field)] * 10 + [constant(field, 1)] * 181, False)):
                # Ten places at degree 1: 11 products with a wish of degree 0, one with a wish of degree 1.
                system = System(field, 10, noughts)
                for ask in (told, free):
                    if kept:
                        self.assertTrue(ask(system, 1))
                    else:
                        with self.assertRaises(TooMany):
                            ask(system, 1)

    def test_wishes_above_the_degree_are_no_pairs(self):
        tall = Sum(TWO, [((0, 1, 2), ONE)])
        self.assertEqual(told(System(TWO, 34, [tall] * 200), 2)[0], "worths")
        with self.assertRaises(TooMany):
            told(System(TWO, 15, [place(0, TWO)] * 17), 3)
        self.assertEqual(told(System(TWO, 15, [place(0, TWO)] * 16), 3)[0], "worths")

    def test_refused_it_may_be_asked_again(self):
        system = System(TWO, 35, [place(0, TWO)])
        for ask in (told, free):
            with self.assertRaises(TooMany):
                ask(system, 2)
            with self.assertRaises(NoDegree):
                ask(system, None)
        self.assertEqual(told(system, 1)[0], "worths")
        self.assertEqual(free(system, 1), 34)


class Great(Telling):
    """Near the bounds, with all that is then to be reckoned."""

    def test_many_linear_wishes(self):
        for prime, many in ((2, 20), (97, 15), (0, 8)):
            field, chance = Field(prime), seeded(155 + prime)
            noughts = [Sum(field, [((), some_number(field, chance))] + [((at,), some_number(field, chance))
                                                                        for at in range(34)]) for _ in range(many)]
            system = System(field, 34, noughts)
            word, paper = told(system, 2)
            self.assertEqual(word, "worths")
            self.assertIs(lets_worths(system, 2, paper), True)
            more = System(field, 34, noughts + [constant(field, 1).plus(noughts[0])])
            word, paper = told(more, 2)
            self.assertEqual(word, "showing")
            self.assertIs(lets_showing(more, 2, paper), True)

    def test_all_products_of_nine_places(self):
        for prime in (2, 7, 0):
            field, chance = Field(prime), seeded(160 + prime)
            for noughts in ([some_sum(field, 9, 12, chance) for _ in range(3)],
                            [some_sum(field, 9, 12, chance).plus(constant(field, 1)) for _ in range(2)]):
                system = System(field, 9, noughts)
                word, paper = told(system, 9 + 4)
                self.assertEqual(word, "worths" if fillings(system) else "showing")
                lets = lets_worths if word == "worths" else lets_showing
                self.assertIs(lets(system, 9 + 4, paper), True)

    def test_two_thousand_pairs(self):
        for field in (TWO, SEVEN, FRACTIONS):
            chance = seeded(170)
            wishes = [linear(field, chance.sample(range(9), 3), 1) for _ in range(200)]
            system = System(field, 9, wishes)
            word, paper = told(system, 2)
            lets = lets_worths if word == "worths" else lets_showing
            self.assertIs(lets(system, 2, paper), True)


class Free(unittest.TestCase):
    def test_by_hand(self):
        chance = seeded(180)
        found = []
        for field in SOME_FIELDS:
            for _ in range(40):
                system = some_system(field, chance)
                degree = chance.randint(0, 5)
                heads = reduced_by_hand(multiples_by_hand(system, degree), field.prime())
                many = len(products_by_hand(system.places(), degree)) - 1 - len(heads)
                found.append(free(system, degree))
                self.assertEqual(found[-1], None if 0 in heads else many)
        self.assertIn(None, found)
        self.assertIn(0, found)
        self.assertGreater(len(set(found)), 8)

    def test_without_noughts(self):
        for field in SOME_FIELDS:
            for places, degree, many in ((1, 0, 0), (1, 1, 1), (1, 300, 1), (4, 2, 10), (9, 9, 511), (34, 2, 595)):
                self.assertEqual(free(System(field, places, []), degree), many)
                self.assertEqual(free(System(field, places, [Sum(field)]), degree), many)

    def test_plainly(self):
        for field in SOME_FIELDS:
            system = System(field, 3, [place(0, field)])
            self.assertEqual([free(system, degree) for degree in range(5)], [0, 2, 3, 3, 3])
            twice = System(field, 3, [place(0, field), place(0, field)])
            self.assertEqual([free(twice, degree) for degree in range(5)], [0, 2, 3, 3, 3])
            self.assertEqual(free(System(field, 3, [constant(field, 1)]), 0), None)
            self.assertIs(type(free(system, 2)), int)

    def test_at_the_top_degree_fillings_less_one(self):
        chance = seeded(181)
        for field in SOME_FIELDS:
            for _ in range(20):
                system = some_system(field, chance)
                many = len(fillings(system))
                for degree in (system.top(), system.top() + 1, 300):
                    self.assertEqual(free(system, degree), many - 1 if many else None)

    def test_none_where_a_showing_is_there(self):
        chance = seeded(182)
        for field in SOME_FIELDS:
            for _ in range(20):
                system = some_system(field, chance)
                for degree in range(5):
                    self.assertEqual(free(system, degree) is None, told(system, degree)[0] == "showing")

    def test_a_rank_that_is_less_over_a_great_prime(self):
        for number in (FIRST_PRIME, 2 ** 31 - 1, 10 ** 9 + 7):
            system = System(FRACTIONS, 2, [place(0).scaled((number, 1)).plus(place(1))])
            self.assertEqual([free(system, degree) for degree in range(4)], [0, 1, 0, 0])
            system = System(FRACTIONS, 2, [place(0).scaled((number, 1)).plus(place(1)), place(1)])
            self.assertEqual(free(system, 1), 0)

    def test_ranks_that_are_less_over_great_primes(self):
        # Wishes that differ by a multiple of primes from what others make, by all numbers that columns could have.
        primes = [FIRST_PRIME]
        for _ in range(2):
            primes.append(prime_below(primes[-1]))
        for great in primes + [primes[0] * primes[1], primes[0] * primes[1] * primes[2]]:
            for number in range(-3, 1012 if great == FIRST_PRIME else 30):
                wish = place(0).scaled((great, 1)).plus(place(1)).plus(constant(FRACTIONS, -number * great))
                self.assertEqual(free(System(FRACTIONS, 2, [place(1), wish]), 1), 0)

    def test_ranks_by_hand_with_great_numbers(self):
        chance = seeded(184)
        found = []
        for turn in range(60):
            great = chance.choice([FIRST_PRIME, prime_below(FIRST_PRIME), 2 ** 31 - 1, 2 ** 61 - 1, 10 ** 9 + 7])
            places = chance.randint(2, 4)
            first = some_sum(FRACTIONS, places, 3, chance)
            noughts = [first]
            for _ in range(chance.randint(1, 3)):
                noughts.append(chance.choice(noughts).plus(some_sum(FRACTIONS, places, 2, chance).scaled((great, 1))))
            noughts.append(noughts[0].plus(noughts[-1]))
            system = System(FRACTIONS, places, noughts)
            degree = chance.randint(1, 4)
            heads = reduced_by_hand(multiples_by_hand(system, degree), 0)
            many = len(products_by_hand(places, degree)) - 1 - len(heads)
            found.append(free(system, degree))
            self.assertEqual(found[-1], None if 0 in heads else many)
        self.assertGreater(len(set(found)), 4)

    def test_large_ones(self):
        # At 562 products and hundreds of pairs: what is free are mixtures of fillings, and more.
        for field in (FRACTIONS, SEVEN):
            system = System(field, 33, [linear(field, range(at, at + 3), 1) for at in range(0, 33, 3)])
            word, worths = told(system, 2)
            self.assertEqual(word, "worths")
            # Each third of the places has three worths of which two are free; so, too, each two of thirds.
            self.assertEqual(free(system, 2), 11 * 2 + 55 * 4)

    def test_renamed(self):
        chance = seeded(183)
        for field in SOME_FIELDS:
            system = some_system(field, chance)
            order = list(range(system.places()))
            chance.shuffle(order)
            for degree in range(5):
                self.assertEqual(free(system, degree), free(system.renamed(order), degree))

    def test_by_name_in_any_order(self):
        self.assertEqual(free(degree=1, system=System(TWO, 3, [])), 3)


class Anew(unittest.TestCase):
    def test_what_is_told_is_the_askers_own(self):
        for system, degree in ((guests(SEVEN, 2, 2), 2), (guests(FRACTIONS, 3, 2), 1)):
            first, second = told(system, degree), told(system, degree)
            self.assertEqual(first, second)
            first[1].clear()
            self.assertEqual(told(system, degree), second)

    def test_by_name_in_any_order(self):
        self.assertEqual(told(degree=0, system=System(TWO, 3, [])), ("worths", {(): ONE}))


if __name__ == "__main__":
    unittest.main()
