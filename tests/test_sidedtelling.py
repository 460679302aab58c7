"""One of the two papers of the second kind, least sided degrees, weights (point 22, and 2 and 3)."""

import copy
import unittest
from fractions import Fraction

from falsesums.answers import FIRST_PRIME, prime_below
from falsesums.errors import NoDegree, NoField, NoWorths, TooMany
from falsesums.fields import Field
from falsesums.fillings import fillings
from falsesums.leasts import least
from falsesums.mixtures import mixed
from falsesums.papers import lets_showing, lets_worths, worths_of
from falsesums.sided import lets_sided, lets_sided_worths, sided_of
from falsesums.sidedtelling import least_sided, sided_weights, told_sided
from falsesums.sums import Sum
from falsesums.systems import System
from falsesums.telling import told
from tests.helper import (FRACTIONS, PRIMES, Stubborn, constant, fraction_of, guests, linear, odd_things, place, seeded,
                          sided_by_hand, sided_told, sided_worths_by_hand, some_sum, some_system)

ONE = (1, 1)
MINUS = (-1, 1)
SEVEN = Field(7)
NO_DEGREES = [-1, 301, 10 ** 40, 1.0] + odd_things()


def below(*places):
    """Not both, or all, of these places: 1 less their product."""
    return Sum(FRACTIONS, [((), ONE), (tuple(places), MINUS)])


def odd_ring(places):
    """Of neighbours in a ring, of an odd number of places, at most one, and yet half of all."""
    uppers = [linear(FRACTIONS, [at, (at + 1) % places], 1).scaled(MINUS) for at in range(places)]
    return System(FRACTIONS, places, [], uppers + [half(places).noughts()[0]])


def crowded(many, rooms):
    """Each guest has a room at least, no room two guests."""
    uppers = [linear(FRACTIONS, range(guest * rooms, (guest + 1) * rooms), 1) for guest in range(many)]
    noughts = [Sum(FRACTIONS, [((guest * rooms + room, other * rooms + room), ONE)])
               for other in range(many) for guest in range(other) for room in range(rooms)]
    return System(FRACTIONS, many * rooms, noughts, uppers)


def half(places):
    """All places together should be half of an odd number."""
    return System(FRACTIONS, places, [linear(FRACTIONS, range(places), 0).plus(constant(FRACTIONS, -places, 2))])


class Telling(unittest.TestCase):
    def word_of(self, system, degree, found=None):
        """The word that is told, the paper looked at."""
        found = told_sided(system, degree) if found is None else found
        self.assertIs(type(found), tuple)
        word, paper = found
        if word == "showing":
            self.assertEqual((type(paper), type(paper[0]), type(paper[1])), (tuple, list, list))
            self.assertIs(lets_sided(system, degree, paper), True)
            self.assertTrue(sided_by_hand(system, degree, paper))
        else:
            self.assertEqual((word, type(paper)), ("worths", dict))
            self.assertIs(lets_sided_worths(system, degree, paper), True)
            if len(paper) < 100:
                self.assertTrue(sided_worths_by_hand(system, degree, paper))
        return word


class ToldSided(Telling):
    def test_just_one_is_there(self):
        chance = seeded(220)
        words = []
        for _ in range(120):
            system = some_system(FRACTIONS, chance, most_places=4, most_noughts=2, uppers=3)
            degree = chance.randint(0, 5)
            words.append(self.word_of(system, degree))
            self.assertEqual(words[-1], sided_told(system, degree)[0])
        self.assertGreater(words.count("showing"), 20)
        self.assertGreater(words.count("worths"), 20)

    def test_a_greater_degree_never_loses_a_showing(self):
        chance = seeded(221)
        turns = 0
        for _ in range(40):
            system = some_system(FRACTIONS, chance, most_places=3, most_noughts=2, uppers=2)
            words = [self.word_of(system, degree) for degree in range(7)]
            self.assertEqual(words, sorted(words, reverse=True))
            turns += words[0] != words[-1]
            self.assertEqual(words[system.top()] if system.top() < 7 else words[-1],
                             "worths" if fillings(system, True) else words[-1])
        self.assertGreater(turns, 5)

    def test_with_an_all_round_filling_always_worths(self):
        chance = seeded(222)
        seen = 0
        for _ in range(60):
            system = some_system(FRACTIONS, chance, most_places=5, most_noughts=1, uppers=3)
            filled = bool(fillings(system, True))
            seen += filled
            for degree in (0, 1, 2, system.top(), 300):
                word = self.word_of(system, degree) if degree < 20 and degree <= system.top() else told_sided(system, degree)[0]
                if filled:
                    self.assertEqual(word, "worths")
                elif degree >= system.top():
                    self.assertEqual(word, "showing")
        self.assertGreater(seen, 15)
        self.assertLess(seen, 60)

    def test_what_the_first_kind_says(self):
        # A showing of the first kind makes one of the second; worths of the second are worths of the first.
        chance = seeded(223)
        for _ in range(60):
            system = some_system(FRACTIONS, chance, most_noughts=4, uppers=2)
            degree = chance.randint(0, 4)
            plain, paper = told(system, degree)
            word, sided_paper = told_sided(system, degree)
            if plain == "showing":
                self.assertEqual(word, "showing")
                self.assertIs(lets_sided(system, degree, sided_of(paper)), True)
            if word == "worths":
                self.assertEqual(plain, "worths")
                self.assertIs(lets_worths(system, degree, sided_paper), True)

    def test_without_wishes(self):
        for places, degrees in ((1, (0, 1, 2, 300)), (4, (0, 1, 3, 4, 5)), (13, (0, 1, 2)), (27, (0, 1, 2)), (60, (0, 1))):
            for degree in degrees:
                self.assertEqual(self.word_of(System(FRACTIONS, places, []), degree), "worths")
                self.assertEqual(self.word_of(System(FRACTIONS, places, [Sum(FRACTIONS)], []), degree), "worths")
        self.assertEqual(self.word_of(System(FRACTIONS, 13, [Sum(FRACTIONS)], [Sum(FRACTIONS)]), 2), "worths")

    def test_a_number_below_nought_as_upper(self):
        for places in (1, 3, 20, 60):
            for upper in (constant(FRACTIONS, -1), constant(FRACTIONS, -2, 7)):
                for others in ([], [place(0)]):
                    system = System(FRACTIONS, places, [], others + [upper] + others)
                    self.assertEqual(self.word_of(system, 0), "showing")
                    self.assertEqual(self.word_of(system, 1), "showing")
        for number in (0, 1):
            system = System(FRACTIONS, 2, [], [constant(FRACTIONS, number)])
            self.assertEqual(self.word_of(system, 1), "worths")

    def test_a_number_as_nought(self):
        system = System(FRACTIONS, 2, [constant(FRACTIONS, 3)])
        self.assertEqual(self.word_of(system, 0), "showing")

    def test_wishes_above_the_degree(self):
        tall = Sum(FRACTIONS, [((0, 1, 2), ONE), ((), MINUS)])
        system = System(FRACTIONS, 3, [tall, place(1)])
        self.assertEqual([self.word_of(system, degree) for degree in range(5)], ["worths"] * 3 + ["showing"] * 2)
        system = System(FRACTIONS, 3, [place(1)], [tall])
        self.assertEqual([self.word_of(system, degree) for degree in range(5)], ["worths"] * 3 + ["showing"] * 2)
        # Of a degree above it an upper says nothing, be it ever so false.
        system = System(FRACTIONS, 3, [], [Sum(FRACTIONS, [((0, 1), MINUS), ((), MINUS)])])
        self.assertEqual([self.word_of(system, degree) for degree in range(4)], ["worths"] * 2 + ["showing"] * 2)

    def test_alike_wishes(self):
        one, other = linear(FRACTIONS, [0, 1], 1), linear(FRACTIONS, [0, 1], 2)
        for many in (1, 2, 5):
            system = System(FRACTIONS, 2, [one] * many, [other] * many)
            self.assertEqual(self.word_of(system, 1), "showing")
            system = System(FRACTIONS, 2, [], [one] * many)
            self.assertEqual(self.word_of(system, 2), "worths")

    def test_known_systems(self):
        # What is told of rings, of guests in too few rooms and of halves at each degree.
        for system, words in ((odd_ring(3), ["worths"] * 2 + ["showing"] * 2), (odd_ring(5), ["worths"] * 2 + ["showing"] * 2),
                              (crowded(3, 2), ["worths"] * 3 + ["showing"] * 2), (half(3), ["worths"] * 3 + ["showing"] * 2),
                              (half(5), ["worths"] * 4 + ["showing"])):
            self.assertEqual([self.word_of(system, degree) for degree in range(len(words))], words)
        self.assertEqual(self.word_of(guests(FRACTIONS, 5, 4), 1), "showing")

    def test_brackets_alone(self):
        # Two places are 3 together: no multiple of the wish comes to -1, but with what they lack it does.
        system = System(FRACTIONS, 2, [linear(FRACTIONS, [0, 1], 3)])
        self.assertEqual([told(system, degree)[0] for degree in (1, 2)], ["worths", "worths"])
        self.assertEqual([self.word_of(system, degree) for degree in (0, 1, 2)], ["worths", "showing", "showing"])

    def test_numbers_of_many_figures(self):
        chance = seeded(224)
        for _ in range(12):
            noughts = [some_sum(FRACTIONS, 3, 3, chance).scaled(FRACTIONS.made(chance.randint(1, 10 ** 59), 10 ** 59 + 7)) for _ in range(2)]
            uppers = [some_sum(FRACTIONS, 3, 3, chance).plus(constant(FRACTIONS, chance.randint(-9, 9), 10 ** 58))]
            self.word_of(System(FRACTIONS, 3, noughts, uppers), chance.randint(1, 4))

    def test_wishes_that_are_others_over_a_great_prime(self):
        for number in (FIRST_PRIME, prime_below(FIRST_PRIME), FIRST_PRIME * prime_below(FIRST_PRIME)):
            more = place(1).plus(place(0).scaled((number, 1)))
            upper = place(0).plus(constant(FRACTIONS, -1, 2))
            for noughts in ([place(1), more], [more, place(1)], [place(1), more, more.plus(place(0))]):
                self.assertEqual(self.word_of(System(FRACTIONS, 2, noughts, [upper]), 1), "showing")
                self.assertEqual(self.word_of(System(FRACTIONS, 2, noughts, [upper.scaled(MINUS)]), 1), "worths")

    def test_refused_over_a_prime(self):
        for prime in PRIMES:
            system = System(Field(prime), 2, [])
            for degree in [0, 2, 300] + NO_DEGREES:
                with self.assertRaises(NoField):
                    told_sided(system, degree)
        with self.assertRaises(NoField):
            told_sided(System(SEVEN, 60, []), 300)

    def test_no_degree(self):
        for system in (System(FRACTIONS, 2, []), System(FRACTIONS, 60, [place(0)] * 200)):
            for degree in NO_DEGREES:
                with self.subTest(degree=repr(degree)), self.assertRaises(NoDegree):
                    told_sided(system, degree)

    def test_renamed_systems_tell_the_same_word(self):
        chance = seeded(225)
        for _ in range(50):
            system = some_system(FRACTIONS, chance, most_noughts=2, uppers=2)
            order = list(range(system.places()))
            chance.shuffle(order)
            degree = chance.randint(0, 4)
            word, paper = told_sided(system, degree)
            self.assertEqual(told_sided(system.renamed(order), degree)[0], word)
            self.assertEqual(self.word_of(system.renamed(order), degree, (word, moved(word, paper, order))), word)

    def test_told_anew(self):
        for system, degree in ((odd_ring(3), 1), (odd_ring(3), 2), (half(3), 3), (guests(FRACTIONS, 2, 1), 1)):
            first, second = told_sided(system, degree), told_sided(system, degree)
            self.assertEqual(first, second)
            for one in first[1] if first[0] == "showing" else [first[1]]:
                one.clear()
            self.assertEqual(told_sided(system, degree), second)

    def test_by_name_in_any_order(self):
        self.assertEqual(told_sided(degree=0, system=System(FRACTIONS, 3, [])), ("worths", {(): ONE}))


def moved(word, paper, order):
    """A paper moved along with renamed places."""
    def of_product(product):
        return tuple(sorted(order[at] for at in product))

    if word == "worths":
        return {of_product(product): number for product, number in paper.items()}
    rows = [((of_product(held), of_product(lacked)), number, share) for (held, lacked), number, share in paper[1]]
    return ([one.renamed(order) for one in paper[0]], rows)


class HowMany(Telling):
    def refused(self, system, degree):
        with self.assertRaises(TooMany):
            told_sided(system, degree)

    def test_products(self):
        for places, degree in ((35, 2), (16, 3), (60, 2), (60, 300), (10, 10), (60, 3)):
            self.refused(System(FRACTIONS, places, []), degree)

    def test_brackets_alone(self):
        # 1459, 1161, 939, 729, 729 and 121 brackets; then 1569, 1563, 1697, 2187, 2059 and 1611.
        for places, degree in ((27, 2), (10, 3), (7, 4), (6, 6), (6, 300), (60, 1)):
            self.assertEqual(self.word_of(System(FRACTIONS, places, []), degree), "worths")
        for places, degree in ((28, 2), (11, 3), (8, 4), (7, 7), (7, 6), (7, 5)):
            self.refused(System(FRACTIONS, places, []), degree)

    def test_brackets_with_uppers(self):
        pairs = [Sum(FRACTIONS, [((other, at), MINUS)]) for at in range(27) for other in range(at)]
        self.assertEqual(self.word_of(System(FRACTIONS, 27, [], pairs[:41]), 2), "worths")
        self.refused(System(FRACTIONS, 27, [], pairs[:42]), 2)
        both = [Sum(FRACTIONS, [((at, at + 1), ONE), ((), MINUS)]) for at in range(20)]
        self.assertEqual(self.word_of(System(FRACTIONS, 27, [], both + pairs[:21]), 2), "showing")
        # Each upper of degree 0 has as many brackets as none, of degree 1 those of a size one less.
        self.assertEqual(self.word_of(System(FRACTIONS, 60, [], [constant(FRACTIONS, 1)] * 11 + [place(3)] * 48), 1), "worths")
        self.refused(System(FRACTIONS, 60, [], [constant(FRACTIONS, 1)] * 11 + [place(3)] * 49), 1)
        self.refused(System(FRACTIONS, 60, [], [Sum(FRACTIONS)] * 12), 1)
        self.assertEqual(self.word_of(System(FRACTIONS, 6, [], [constant(FRACTIONS, -1)]), 6), "showing")
        self.refused(System(FRACTIONS, 6, [], [constant(FRACTIONS, -1)] * 2), 6)
        # Those above the degree have none.
        self.assertEqual(self.word_of(System(FRACTIONS, 27, [], [Sum(FRACTIONS, [((0, 1, 2), ONE)])] * 200), 2), "worths")

    def test_pairs(self):
        # 46 products of nine places at degree 2, ten of a size up to 1, and the empty one.
        noughts = [Sum(FRACTIONS)] * 43 + [place(0)] * 2 + [Sum(FRACTIONS, [((0, 1), ONE)])] * 2
        self.assertEqual(self.word_of(System(FRACTIONS, 9, noughts), 2), "worths")
        self.refused(System(FRACTIONS, 9, noughts + [Sum(FRACTIONS, [((1, 2), ONE)])]), 2)
        self.assertEqual(self.word_of(System(FRACTIONS, 9, noughts + [below(0, 1, 2)]), 2), "worths")

    def test_refused_it_may_be_asked_again(self):
        system = System(FRACTIONS, 28, [], [constant(FRACTIONS, -1)])
        self.refused(system, 2)
        self.assertEqual(self.word_of(system, 1), "showing")
        self.refused(system, 2)

    def test_near_the_bounds(self):
        chance = seeded(226)
        for places, degree, many in ((20, 2, 8), (10, 3, 1), (12, 2, 20)):
            uppers = [linear(FRACTIONS, chance.sample(range(places), 3), 1).scaled((chance.choice([-1, 1]), 1))
                      for _ in range(many)]
            self.word_of(System(FRACTIONS, places, [], uppers), degree)
        self.assertEqual(self.word_of(crowded(5, 4), 2), "worths")
        self.assertEqual(self.word_of(half(7), 4), "worths")


class LeastSided(Telling):
    def degree_of(self, system):
        """The least sided degree, both papers looked at."""
        word, degree, showing, worths = least_sided(system)
        self.assertEqual(word, "least")
        self.assertLessEqual(degree, system.top())
        self.assertEqual(self.word_of(system, degree, ("showing", showing)), "showing")
        if degree == 0:
            self.assertIsNone(worths)
        else:
            self.assertEqual(self.word_of(system, degree - 1, ("worths", worths)), "worths")
        return degree

    def test_just_one_of_both(self):
        chance = seeded(227)
        filled, degrees = 0, []
        for _ in range(90):
            system = some_system(FRACTIONS, chance, most_places=4, most_noughts=3, uppers=2)
            found = fillings(system, True)
            if found:
                filled += 1
                self.assertEqual(least_sided(system), ("filled", found[0]))
            else:
                degrees.append(self.degree_of(system))
        self.assertGreater(filled, 15)
        self.assertGreater(len(degrees), 30)
        self.assertGreater(len(set(degrees)), 3)

    def test_never_above_that_of_the_noughts_alone(self):
        chance = seeded(228)
        less = 0
        for _ in range(60):
            system = some_system(FRACTIONS, chance, most_places=3, most_noughts=4, uppers=2)
            plain = least(system)
            if plain[0] == "least":
                degree = self.degree_of(system)
                self.assertLessEqual(degree, plain[1])
                self.assertIs(lets_sided(system, plain[1], sided_of(plain[2])), True)
                less += degree < plain[1]
        self.assertGreater(less, 3)

    def test_known_degrees(self):
        self.assertEqual(self.degree_of(System(FRACTIONS, 3, [], [constant(FRACTIONS, -1)])), 0)
        self.assertEqual(self.degree_of(System(FRACTIONS, 3, [constant(FRACTIONS, 2)])), 0)
        self.assertEqual(self.degree_of(System(FRACTIONS, 2, [linear(FRACTIONS, [0, 1], 3)])), 1)
        for places in (1, 2, 3):
            self.assertEqual(least(System(FRACTIONS, places, [linear(FRACTIONS, range(places), 9)]))[1], places + 1)
            self.assertEqual(self.degree_of(System(FRACTIONS, places, [linear(FRACTIONS, range(places), 9)])), 1)
        self.assertEqual(self.degree_of(odd_ring(5)), 2)
        # By likeness all products of so many places are worth the same: more than half of all, less than nought.
        for places in (1, 3, 5):
            self.assertEqual(self.degree_of(half(places)), (places + 3) // 2)
            self.assertEqual(least(half(places))[1], places + 1)
        self.assertEqual(self.degree_of(crowded(3, 2)), 3)
        self.assertEqual(self.degree_of(guests(FRACTIONS, 4, 3)), 1)

    def test_the_first_all_round_filling(self):
        system = System(FRACTIONS, 2, [], [place(0).plus(constant(FRACTIONS, -1, 2))])
        self.assertEqual(least(system), ("filled", (0, 0)))
        self.assertEqual(least_sided(system), ("filled", (1, 0)))
        self.assertEqual(least_sided(System(FRACTIONS, 12, [])), ("filled", (0,) * 12))
        # A filling of the noughts alone is not enough.
        system = System(FRACTIONS, 2, [linear(FRACTIONS, [0, 1], 1)], [linear(FRACTIONS, [0, 1], 2)])
        self.assertEqual(least(system)[0], "filled")
        self.assertEqual(self.degree_of(system), 1)

    def test_too_many(self):
        for places in (13, 60):
            for uppers in ([], [constant(FRACTIONS, -1)]):
                with self.assertRaises(TooMany):
                    least_sided(System(FRACTIONS, places, [], uppers))
        # At twelve places as told_sided refuses, at a degree up to the least one.
        tall = Sum(FRACTIONS, [(tuple(range(12)), ONE), ((), MINUS)])
        with self.assertRaises(TooMany):
            least_sided(System(FRACTIONS, 12, [tall, place(0)]))
        self.assertEqual(self.degree_of(System(FRACTIONS, 12, [tall, place(0)], [linear(FRACTIONS, [0], 1)])), 1)

    def test_over_a_prime(self):
        for prime in PRIMES:
            for system in (System(Field(prime), 2, []), System(Field(prime), 13, [])):
                with self.assertRaises(NoField):
                    least_sided(system)

    def test_renamed(self):
        chance = seeded(229)
        for _ in range(30):
            system = some_system(FRACTIONS, chance, most_places=4, uppers=2)
            order = list(range(system.places()))
            chance.shuffle(order)
            one, other = least_sided(system), least_sided(system.renamed(order))
            self.assertEqual(one[0], other[0])
            if one[0] == "least":
                self.assertEqual(one[1], other[1])
                self.word_of(system.renamed(order), one[1], ("showing", moved("showing", one[2], order)))

    def test_told_anew_and_by_name(self):
        system = odd_ring(3)
        first, second = least_sided(system=system), least_sided(system)
        self.assertEqual(first, second)
        first[2][0].clear()
        first[2][1].clear()
        first[3].clear()
        self.assertEqual(least_sided(system), second)


class SidedWeights(unittest.TestCase):
    def some_weights(self, system, chance):
        """Weights above nought of some of the all round fillings, that come together to 1."""
        chosen = [filling for filling in fillings(system, True) if chance.random() < 0.6]
        parts = [Fraction(chance.randint(1, 9), chance.randint(1, 5)) for _ in chosen]
        return {filling: (part / sum(parts)).as_integer_ratio() for filling, part in zip(chosen, parts)}

    def test_of_mixtures(self):
        chance = seeded(230)
        seen = 0
        for _ in range(80):
            system = some_system(FRACTIONS, chance, most_places=4, most_noughts=1, uppers=2)
            weights = self.some_weights(system, chance)
            if weights:
                seen += 1
                for degree in (system.top(), system.top() + 1, 300):
                    worths = mixed(system, degree, weights)
                    self.assertIs(lets_sided_worths(system, degree, worths), True)
                    before = copy.deepcopy(worths)
                    self.assertEqual(sided_weights(system, degree, worths), weights)
                    self.assertEqual(worths, before)
        self.assertGreater(seen, 25)

    def test_of_what_is_told(self):
        chance = seeded(231)
        for _ in range(40):
            system = some_system(FRACTIONS, chance, most_places=3, most_noughts=1, uppers=2)
            degree = system.top()
            word, paper = told_sided(system, degree)
            self.assertEqual(word == "worths", bool(fillings(system, True)))
            if word == "worths":
                weights = sided_weights(system, degree, paper)
                self.assertTrue(all(number[0] > 0 for number in weights.values()))
                self.assertEqual(sum(fraction_of(number) for number in weights.values()), 1)
                self.assertTrue(all(filling in fillings(system, True) for filling in weights))
                self.assertEqual(mixed(system, degree, weights), paper)

    def test_of_one_filling(self):
        system = System(FRACTIONS, 2, [linear(FRACTIONS, [0, 1], 1)], [place(0)])
        for filling in ((0, 1), (1, 0)):
            self.assertEqual(sided_weights(system, 3, worths_of(system, 3, filling)), {filling: ONE})

    def test_refused_over_a_prime(self):
        system = System(SEVEN, 1, [])
        for degree in [0, 1, 300] + NO_DEGREES:
            for worths in ({(): ONE, (0,): ONE}, None, Stubborn()):
                with self.assertRaises(NoField):
                    sided_weights(system, degree, worths)

    def test_no_degree(self):
        system = System(FRACTIONS, 2, [place(0)], [Sum(FRACTIONS, [((0, 1), ONE)])])
        self.assertEqual(system.top(), 4)
        for degree in NO_DEGREES + [0, 1, 2, 3]:
            for worths in (worths_of(system, 3, (0, 0)), {}, None, Stubborn()):
                with self.subTest(degree=repr(degree)), self.assertRaises(NoDegree):
                    sided_weights(system, degree, worths)
        self.assertEqual(sided_weights(system, 4, worths_of(system, 4, (0, 0))), {(0, 0): ONE})

    def test_no_worths(self):
        system = System(FRACTIONS, 2, [], [linear(FRACTIONS, [0, 1], 1)])
        for worths in odd_things() + [0, {(): ONE}, [((), ONE)]]:
            with self.subTest(worths=repr(worths)), self.assertRaises(NoWorths):
                sided_weights(system, 3, worths)
        # Worths, but no sided ones: a weight below nought, and a filling that is no all round one.
        below_nought = mixed(system, 3, {(0, 1): (2, 1), (1, 1): MINUS})
        not_all_round = mixed(system, 3, {(0, 1): (1, 2), (0, 0): (1, 2)})
        for worths in (below_nought, not_all_round, worths_of(system, 3, (0, 0))):
            self.assertIs(lets_worths(system, 3, worths), True)
            with self.assertRaises(NoWorths):
                sided_weights(system, 3, worths)

    def test_told_anew_and_by_name(self):
        system = System(FRACTIONS, 1, [])
        worths = worths_of(system, 1, (1,))
        weights = sided_weights(worths=worths, degree=1, system=system)
        self.assertEqual(weights, {(1,): ONE})
        weights.clear()
        self.assertEqual(sided_weights(system, 1, worths), {(1,): ONE})


class NeverBoth(unittest.TestCase):
    def test_what_is_let_by_whoever_wrote_it(self):
        # A showing that was written by hand, of the first kind made one of the second.
        system = guests(FRACTIONS, 3, 2)
        share = constant(FRACTIONS, -1)
        showing = [share] * 3 + [share.scaled(MINUS)] * 2
        self.assertIs(lets_showing(system, 1, showing), True)
        self.assertIs(lets_sided(system, 1, sided_of(showing)), True)
        for degree in (1, 2, 3):
            self.assertEqual(told_sided(system, degree)[0], "showing")


if __name__ == "__main__":
    unittest.main()
