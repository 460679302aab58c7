"""Leadings of systems into others (points 23 and 24, and 2 and 3)."""

import copy
import unittest

from falsesums.errors import NoDegree, NoFilling, NoLeading, NoShowing, NoWorths, Unlike
from falsesums.fields import Field
from falsesums.fillings import fillings, is_filling
from falsesums.leadings import carried, carried_back, is_leading, joined, led_degree, led_filling
from falsesums.papers import lets_showing, lets_worths, worths_of
from falsesums.sums import Sum
from falsesums.systems import System
from falsesums.telling import told
from tests.helper import (FRACTIONS, SOME_FIELDS, Stubborn, all_rows, constant, guests, linear, odd_things, place,
                          products_by_hand, seeded, some_number, some_sum, worth_by_worths)

ONE = (1, 1)
SEVEN = Field(7)
NO_DEGREES = [-1, 301, 10 ** 40, 1.0] + odd_things()


def nought_or_one(field, places, chance):
    """A sum that is 0 or 1 at each filling, made by chance of at most three places."""
    chosen = chance.sample(range(places), chance.randint(0, min(3, places)))
    total = Sum(field)
    for row in all_rows(len(chosen)):
        if chance.random() < 0.5:
            part = constant(field, 1)
            for at, bit in zip(chosen, row):
                own = place(at, field)
                part = part.times(own if bit else constant(field, 1).plus(own.scaled(field.made(-1))))
            total = total.plus(part)
    return total


def led(one, field, places, chance):
    """A system that the one is led into, and the leading: its noughts are made of those of one."""
    sums = [nought_or_one(field, places, chance) for _ in range(one.places())]
    wishes, papers = [], []
    for nought in one.noughts():
        share = some_number(field, chance)
        share = share if share[0] else ONE
        factors = [some_sum(field, places, 2, chance) for _ in wishes]
        wish = nought.put_in(sums).scaled(share)
        for other, factor in zip(wishes, factors):
            wish = wish.plus(other.times(factor))
        # The nought is the new wish less what was added to it, by the share.
        back = field.over(ONE, share)
        papers.append([factor.scaled(field.times(back, field.made(-1))) for factor in factors] + [constant(field, 1).scaled(back)])
        wishes.append(wish)
    extra = [some_sum(field, places, 3, chance) for _ in range(chance.randint(0, 1))]
    papers = [paper + [Sum(field)] * (len(wishes) + len(extra) - len(paper)) for paper in papers]
    return System(field, places, wishes + extra), (sums, papers)


def some_one(field, chance):
    """A system with up to two noughts of up to two places each."""
    places = chance.randint(1, 3)
    terms = [[(tuple(sorted(chance.sample(range(places), chance.randint(0, min(2, places))))), some_number(field, chance))
              for _ in range(3)] for _ in range(chance.randint(0, 2))]
    return System(field, places, [Sum(field, listed) for listed in terms])


def some_leadings(seed, many):
    """Tuples (one, other, leading) over several fields, made by chance with a seed."""
    chance = seeded(seed)
    for field in SOME_FIELDS:
        for _ in range(many):
            one = some_one(field, chance)
            other, leading = led(one, field, chance.randint(1, 4), chance)
            yield one, other, leading


def restricted(field):
    """Three guests in two rooms are led into two in one room: the last guest has the last room."""
    one, other = guests(field, 3, 2), guests(field, 2, 1)
    none, all_of = Sum(field), constant(field, 1)
    sums = [place(0, field), none, place(1, field), none, none, all_of]
    papers = [[all_of, none, none], [none, all_of, none], [none] * 3, [none, none, all_of], [none] * 3]
    return one, other, (sums, papers)


def same(system):
    """The leading of a system into itself by its own places."""
    field, many = system.field(), len(system.noughts())
    papers = [[constant(field, int(at == number)) for at in range(many)] for number in range(many)]
    return ([place(at, field) for at in range(system.places())], papers)


def degree_by_hand(one, other, leading, degree):
    sums, papers = leading
    growth = max([1] + [put.degree() for put in sums])
    found = degree * growth
    for nought, paper in zip(one.noughts(), papers):
        for wish, factor in zip(other.noughts(), paper):
            if nought.degree() <= degree and len(factor):
                found = max(found, (degree - nought.degree()) * growth + factor.degree() + wish.degree())
    return found


def multiplied(field, pairs):
    total = Sum(field)
    for one, other in pairs:
        total = total.plus(one.times(other))
    return total


class IsLeading(unittest.TestCase):
    def test_of_leadings(self):
        for one, other, leading in some_leadings(230, 25):
            self.assertIs(is_leading(one, other, leading), True)

    def test_known_ones(self):
        for field in SOME_FIELDS:
            one, other, leading = restricted(field)
            self.assertIs(is_leading(one, other, leading), True)
            self.assertIs(is_leading(one, one, same(one)), True)
            self.assertIs(is_leading(other, other, same(other)), True)
            self.assertIs(is_leading(System(field, 1, []), System(field, 1, []), ([place(0, field)], [])), True)
            # A place more in other, and a sum of two places that is never 2.
            plus = Sum(field, [((0,), ONE), ((1,), ONE), ((0, 1), field.made(-2))])
            self.assertIs(is_leading(System(field, 1, []), System(field, 5, []), ([plus], [])), True)

    def test_uppers_play_no_part(self):
        one = System(FRACTIONS, 1, [place(0)], [place(0), constant(FRACTIONS, -1)])
        other = System(FRACTIONS, 2, [place(1)], [constant(FRACTIONS, -5)])
        leading = ([place(1)], [[constant(FRACTIONS, 1)]])
        self.assertIs(is_leading(one, other, leading), True)
        self.assertEqual(led_filling(one, other, leading, (1, 0)), (0,))

    def test_anything_else(self):
        one, other, leading = restricted(SEVEN)
        for thing in odd_things() + [0, list(leading), leading[0], leading[1]]:
            with self.subTest(thing=repr(thing)):
                self.assertIs(is_leading(one, other, thing), False)
        sums, papers = leading
        for thing in odd_things() + [0, tuple(sums), sums[:-1], sums + [Sum(SEVEN)]]:
            with self.subTest(sums=repr(thing)):
                self.assertIs(is_leading(one, other, (thing, papers)), False)
        for thing in odd_things() + [0, tuple(papers), papers[:-1], papers + [papers[0]], papers[0]]:
            with self.subTest(papers=repr(thing)):
                self.assertIs(is_leading(one, other, (sums, thing)), False)
        self.assertIs(is_leading(one, other, leading + (1,)), False)
        self.assertIs(is_leading(one, other, (sums,)), False)

    def test_each_sum_and_list(self):
        one, other, (sums, papers) = restricted(SEVEN)
        wrong_sums = odd_things() + [0, place(0), place(0, Field(5)), place(2, SEVEN), place(0, SEVEN).scaled((2, 1)),
                                     constant(SEVEN, 2), linear(SEVEN, [0, 1], 0)]
        for at in range(len(sums)):
            for thing in wrong_sums:
                with self.subTest(at=at, thing=repr(thing)):
                    self.assertIs(is_leading(one, other, (sums[:at] + [thing] + sums[at + 1:], papers)), False)
        for at, paper in enumerate(papers):
            for thing in odd_things() + [0, tuple(paper), paper[:-1], paper + [Sum(SEVEN)], Sum(SEVEN)]:
                with self.subTest(at=at, thing=repr(thing)):
                    self.assertIs(is_leading(one, other, (sums, papers[:at] + [thing] + papers[at + 1:])), False)
            for number in range(len(paper)):
                for thing in odd_things() + [0, Sum(FRACTIONS), place(2, SEVEN), linear(SEVEN, [0, 1], 0), constant(SEVEN, 3)]:
                    changed = paper[:number] + [thing] + paper[number + 1:]
                    with self.subTest(at=at, number=number, thing=repr(thing)):
                        self.assertIs(is_leading(one, other, (sums, papers[:at] + [changed] + papers[at + 1:])), False)

    def test_a_sum_that_is_not_itself_when_squared(self):
        for field in SOME_FIELDS:
            one, other = System(field, 1, []), System(field, 2, [])
            for put in (linear(field, [0, 1], 0), constant(field, 2), constant(field, -1), place(0, field).scaled(field.made(-1)),
                        linear(field, [0], -1)):
                wanted = all(worth in ((0, 1), ONE) for worth in [put.worth(row) for row in all_rows(2)])
                self.assertIs(is_leading(one, other, ([put], [])), wanted)

    def test_papers_that_come_together_otherwise(self):
        for one, other, (sums, papers) in some_leadings(231, 12):
            field = one.field()
            for at, paper in enumerate(papers):
                for number, wish in enumerate(other.noughts()):
                    changed = list(paper)
                    changed[number] = changed[number].plus(constant(field, 1))
                    # Of a wish that is nought all multiples are so, too.
                    self.assertIs(is_leading(one, other, (sums, papers[:at] + [changed] + papers[at + 1:])), len(wish) == 0)

    def test_into_a_system_without_noughts(self):
        for field in SOME_FIELDS:
            one = System(field, 2, [Sum(field, [((0, 1), ONE)])])
            lacked = constant(field, 1).plus(place(0, field).scaled(field.made(-1)))
            self.assertIs(is_leading(one, System(field, 1, []), ([place(0, field), lacked], [[]])), True)
            self.assertIs(is_leading(one, System(field, 1, []), ([place(0, field)] * 2, [[]])), False)

    def test_unlike_ahead_of_all_else(self):
        one, other, leading = restricted(SEVEN)
        for third in (System(FRACTIONS, 2, []), System(Field(5), 2, []), System(Field(2), 6, [])):
            for thing in odd_things() + [leading, 0]:
                for first, second in ((one, third), (third, other)):
                    with self.assertRaises(Unlike):
                        is_leading(first, second, thing)
                    with self.assertRaises(Unlike):
                        led_filling(first, second, thing, None)
                    with self.assertRaises(Unlike):
                        led_degree(first, second, thing, None)
                    with self.assertRaises(Unlike):
                        carried(first, second, thing, None, None)
                    with self.assertRaises(Unlike):
                        carried_back(first, second, thing, None, None)

    def test_long_sums(self):
        # A sum that is 1 where just one of ten places is 1.
        total = Sum(SEVEN)
        for at in range(10):
            part = place(at, SEVEN)
            for lacked in range(10):
                if lacked != at:
                    part = part.times(linear(SEVEN, [lacked], 1).scaled((6, 1)))
            total = total.plus(part)
        self.assertGreater(len(total), 900)
        self.assertIs(is_leading(System(SEVEN, 1, []), System(SEVEN, 10, []), ([total], [])), True)
        self.assertIs(is_leading(System(SEVEN, 1, []), System(SEVEN, 10, []), ([total.scaled((2, 1))], [])), False)

    def test_by_name_in_any_order(self):
        one, other, leading = restricted(SEVEN)
        self.assertIs(is_leading(thing=leading, other=other, one=one), True)
        self.assertIs(is_leading(thing=leading, other=one, one=other), False)


class LedFilling(unittest.TestCase):
    def test_each_filling(self):
        seen = 0
        for one, other, leading in some_leadings(232, 25):
            for filling in fillings(other):
                seen += 1
                found = led_filling(one, other, leading, filling)
                self.assertEqual(found, tuple(put.worth(filling)[0] for put in leading[0]))
                self.assertTrue(all(type(bit) is int for bit in found))
                self.assertIs(is_filling(one, found), True)
        self.assertGreater(seen, 60)

    def test_refusals_in_order(self):
        one, other = System(SEVEN, 2, [place(0, SEVEN)]), System(SEVEN, 2, [place(1, SEVEN)])
        leading = ([place(1, SEVEN), place(0, SEVEN)], [[constant(SEVEN, 1)]])
        self.assertEqual(led_filling(one, other, leading, (1, 0)), (0, 1))
        for thing in odd_things() + [0, same(one)]:
            for filling in ((1, 0), None, Stubborn()):
                with self.subTest(thing=repr(thing)), self.assertRaises(NoLeading):
                    led_filling(one, other, thing, filling)
        for filling in odd_things() + [0, (0, 1), (1, 1), [1, 0], (1,), (1, 0, 0), (True, 0), (2, 0)]:
            with self.subTest(filling=repr(filling)), self.assertRaises(NoFilling):
                led_filling(one, other, leading, filling)

    def test_by_name_in_any_order(self):
        system = System(SEVEN, 2, [])
        self.assertEqual(led_filling(filling=(1, 0), leading=same(system), other=system, one=system), (1, 0))


class LedDegree(unittest.TestCase):
    def test_by_hand(self):
        found = set()
        for one, other, leading in some_leadings(233, 20):
            for degree in range(7):
                found.add(led_degree(one, other, leading, degree))
                self.assertEqual(led_degree(one, other, leading, degree), degree_by_hand(one, other, leading, degree))
        self.assertGreater(len(found), 8)

    def test_numbers_alone(self):
        # Where only numbers are put in their degree counts as 1.
        one, other = System(SEVEN, 2, []), System(SEVEN, 2, [])
        leading = ([Sum(SEVEN), constant(SEVEN, 1)], [])
        self.assertEqual([led_degree(one, other, leading, degree) for degree in (0, 1, 7, 300)], [0, 1, 7, 300])

    def test_from_nought_to_three_hundred(self):
        system = System(SEVEN, 3, [place(0, SEVEN)])
        self.assertEqual([led_degree(system, system, same(system), degree) for degree in (0, 1, 299, 300)], [0, 1, 299, 300])
        twice = ([place(0, SEVEN).times(place(1, SEVEN))] * 3, [[place(1, SEVEN)]])
        self.assertIs(is_leading(system, system, twice), True)
        self.assertEqual([led_degree(system, system, twice, degree) for degree in (0, 1, 2, 150)], [0, 2, 4, 300])
        for degree in (151, 200, 300):
            with self.assertRaises(NoDegree):
                led_degree(system, system, twice, degree)
            with self.assertRaises(NoDegree):
                carried(system, system, twice, degree, None)
            with self.assertRaises(NoDegree):
                carried_back(system, system, twice, degree, None)

    def test_above_three_hundred_by_a_paper(self):
        # 1 put in for a place: the paper's degree, and its wish's, are what is above the degree.
        one, other = System(SEVEN, 1, [Sum(SEVEN)]), System(SEVEN, 3, [Sum(SEVEN, [((0, 1), ONE), ((0, 1, 2), (6, 1))])])
        # It is nought times the product of its places.
        whole = Sum(SEVEN, [((0, 1, 2), ONE)])
        leading = ([place(0, SEVEN)], [[whole]])
        self.assertIs(is_leading(one, other, leading), True)
        self.assertEqual([led_degree(one, other, leading, degree) for degree in (0, 1, 294)], [6, 7, 300])
        for degree in (295, 300):
            with self.assertRaises(NoDegree):
                led_degree(one, other, leading, degree)

    def test_noughts_above_the_degree_and_sums_that_are_nought(self):
        both = Sum(SEVEN, [((0, 1), ONE)])
        one = System(SEVEN, 2, [both, both])
        other = System(SEVEN, 4, [both, Sum(SEVEN, [((0, 1, 2, 3), ONE)])])
        unit, none = constant(SEVEN, 1), Sum(SEVEN)
        sums = [place(0, SEVEN), place(1, SEVEN)]
        plain = (sums, [[unit, none], [unit, none]])
        self.assertEqual([led_degree(one, other, plain, degree) for degree in range(5)], [0, 1, 2, 3, 4])
        # Both wishes of other, the first less what the second adds: 4 and 2 where the nought comes in, at degree 2.
        less = Sum(SEVEN, [((), ONE), ((2, 3), ONE)])
        longer = (sums, [[unit, none], [less, constant(SEVEN, -1)]])
        self.assertIs(is_leading(one, other, longer), True)
        self.assertEqual([led_degree(one, other, longer, degree) for degree in range(5)], [0, 1, 4, 5, 6])

    def test_refusals_in_order(self):
        system = System(SEVEN, 2, [place(0, SEVEN)])
        for thing in odd_things() + [0, ([], [])]:
            for degree in (0, -1, None, Stubborn()):
                with self.subTest(thing=repr(thing)), self.assertRaises(NoLeading):
                    led_degree(system, system, thing, degree)
        for degree in NO_DEGREES:
            with self.subTest(degree=repr(degree)), self.assertRaises(NoDegree):
                led_degree(system, system, same(system), degree)

    def test_by_name_in_any_order(self):
        system = System(SEVEN, 2, [place(0, SEVEN)])
        self.assertEqual(led_degree(degree=3, leading=same(system), other=system, one=system), 3)


class Carried(unittest.TestCase):
    def test_showings_are_carried_along(self):
        seen = 0
        for one, other, leading in some_leadings(234, 60):
            degree = 2
            word, showing = told(one, degree)
            if word == "showing":
                seen += 1
                before = copy.copy(showing)
                found = carried(one, other, leading, degree, showing)
                self.assertEqual(showing, before)
                self.assertIs(lets_showing(other, led_degree(one, other, leading, degree), found), True)
                wanted = [multiplied(one.field(), [(factor.put_in(leading[0]), paper[number])
                                                   for factor, paper in zip(showing, leading[1])])
                          for number in range(len(other.noughts()))]
                self.assertEqual(found, wanted)
                # So other has no filling.
                self.assertEqual(fillings(other), [])
        self.assertGreater(seen, 30)

    def test_guests_and_rooms(self):
        for field in SOME_FIELDS:
            one, other, leading = restricted(field)
            share = constant(field, -1)
            showing = [share] * 3 + [constant(field, 1)] * 2
            self.assertIs(lets_showing(one, 1, showing), True)
            found = carried(one, other, leading, 1, showing)
            self.assertEqual(found, [share] * 2 + [constant(field, 1)])
            self.assertIs(lets_showing(other, 1, found), True)

    def test_into_itself_nothing_changes(self):
        system = guests(FRACTIONS, 3, 2)
        showing = told(system, 2)[1]
        self.assertEqual(carried(system, system, same(system), 2, showing), showing)

    def test_refusals_in_order(self):
        one, other, leading = restricted(SEVEN)
        showing = [constant(SEVEN, -1)] * 3 + [constant(SEVEN, 1)] * 2
        for thing in odd_things() + [0, same(one)]:
            for degree in (1, None, 301):
                with self.subTest(thing=repr(thing)), self.assertRaises(NoLeading):
                    carried(one, other, thing, degree, showing)
        for degree in NO_DEGREES:
            for thing in (showing, None, Stubborn()):
                with self.subTest(degree=repr(degree)), self.assertRaises(NoDegree):
                    carried(one, other, leading, degree, thing)
        wrong = odd_things() + [0, showing[:-1], showing + [Sum(SEVEN)], tuple(showing), [Sum(SEVEN)] * 5, showing[::-1],
                                showing[:-1] + [None], showing[:-1] + [place(0, SEVEN)]]
        for thing in wrong:
            with self.subTest(thing=repr(thing)), self.assertRaises(NoShowing):
                carried(one, other, leading, 1, thing)
        # Of degree 1, not of degree 0.
        with self.assertRaises(NoShowing):
            carried(one, other, leading, 0, showing)

    def test_told_anew_and_by_name(self):
        one, other, leading = restricted(SEVEN)
        showing = [constant(SEVEN, -1)] * 3 + [constant(SEVEN, 1)] * 2
        first = carried(showing=showing, degree=1, leading=leading, other=other, one=one)
        second = list(first)
        first.clear()
        self.assertEqual(carried(one, other, leading, 1, showing), second)


class CarriedBack(unittest.TestCase):
    def test_worths_are_carried_back(self):
        seen = 0
        for one, other, leading in some_leadings(235, 40):
            for degree in (0, 1, 2):
                above = led_degree(one, other, leading, degree)
                word, worths = told(other, above)
                if word == "worths":
                    seen += 1
                    before = copy.copy(worths)
                    found = carried_back(one, other, leading, degree, worths)
                    self.assertEqual(worths, before)
                    self.assertIs(lets_worths(one, degree, found), True)
                    self.assertEqual(told(one, degree)[0], "worths")
                    self.assertEqual(list(found), products_by_hand(one.places(), degree))
                    for product, number in found.items():
                        whole = constant(one.field(), 1)
                        for at in product:
                            whole = whole.times(leading[0][at])
                        self.assertEqual(number[0], worth_by_worths(worths, one.field(), whole) * number[1])
        self.assertGreater(seen, 60)

    def test_of_a_filling_those_of_the_led_one(self):
        for one, other, leading in some_leadings(236, 15):
            for filling in fillings(other):
                above = led_degree(one, other, leading, 2)
                found = carried_back(one, other, leading, 2, worths_of(other, above, filling))
                self.assertEqual(found, worths_of(one, 2, led_filling(one, other, leading, filling)))

    def test_refusals_in_order(self):
        one = System(SEVEN, 2, [place(0, SEVEN)])
        leading = ([place(0, SEVEN).times(place(1, SEVEN)), place(1, SEVEN)], [[place(1, SEVEN)]])
        self.assertEqual(led_degree(one, one, leading, 1), 2)
        worths = worths_of(one, 2, (0, 1))
        self.assertEqual(carried_back(one, one, leading, 1, worths), worths_of(one, 1, (0, 1)))
        for thing in odd_things() + [0, ([], [])]:
            for degree in (1, None, 301):
                with self.subTest(thing=repr(thing)), self.assertRaises(NoLeading):
                    carried_back(one, one, thing, degree, worths)
        for degree in NO_DEGREES:
            for thing in (worths, None, Stubborn()):
                with self.subTest(degree=repr(degree)), self.assertRaises(NoDegree):
                    carried_back(one, one, leading, degree, thing)
        # Worths of the degree itself, not of the leading's degree, are none.
        wrong = odd_things() + [0, worths_of(one, 1, (0, 1)), dict(worths, **{"a": ONE}), list(worths.items()),
                                {**worths, (): (2, 1)}, {**worths, (0,): ONE}]
        for thing in wrong:
            with self.subTest(thing=repr(thing)), self.assertRaises(NoWorths):
                carried_back(one, one, leading, 1, thing)

    def test_told_anew_and_by_name(self):
        system = System(SEVEN, 2, [])
        worths = worths_of(system, 1, (0, 1))
        found = carried_back(worths=worths, degree=1, leading=same(system), other=system, one=system)
        self.assertEqual(found, worths)
        found.clear()
        self.assertEqual(carried_back(system, system, same(system), 1, worths), worths)


class Joined(unittest.TestCase):
    def chains(self, seed, many):
        """Tuples (one, other, third, first, second) made by chance with a seed."""
        chance = seeded(seed)
        for field in SOME_FIELDS:
            for _ in range(many):
                one = some_one(field, chance)
                other, first = led(one, field, chance.randint(1, 3), chance)
                third, second = led(other, field, chance.randint(1, 3), chance)
                yield one, other, third, first, second

    def test_a_leading_with_just_these_sums(self):
        for one, other, third, first, second in self.chains(237, 15):
            before = copy.deepcopy((first[0], first[1], second[0], second[1]))
            found = joined(one, other, third, first, second)
            self.assertEqual((first[0], first[1], second[0], second[1]), before)
            self.assertIs(is_leading(one, third, found), True)
            self.assertEqual(found[0], [put.put_in(second[0]) for put in first[0]])
            wanted = [[multiplied(one.field(), [(factor.put_in(second[0]), paper[number])
                                                for factor, paper in zip(listed, second[1])])
                       for number in range(len(third.noughts()))] for listed in first[1]]
            self.assertEqual(found[1], wanted)
            for filling in fillings(third):
                middle = led_filling(other, third, second, filling)
                self.assertEqual(led_filling(one, third, found, filling), led_filling(one, other, first, middle))

    def test_carried_one_behind_the_other(self):
        seen = 0
        for one, other, third, first, second in self.chains(238, 40):
            both = joined(one, other, third, first, second)
            word, showing = told(one, 2)
            if word == "showing":
                seen += 1
                middle = led_degree(one, other, first, 2)
                along = carried(other, third, second, middle, carried(one, other, first, 2, showing))
                self.assertEqual(carried(one, third, both, 2, showing), along)
        self.assertGreater(seen, 15)

    def test_with_itself(self):
        one, other, leading = restricted(SEVEN)
        self.assertEqual(joined(one, one, other, same(one), leading), leading)
        self.assertEqual(joined(one, other, other, leading, same(other)), leading)

    def test_refusals_in_order(self):
        one, other, leading = restricted(SEVEN)
        for thing in odd_things() + [0, same(other)]:
            with self.subTest(thing=repr(thing)), self.assertRaises(NoLeading):
                joined(one, other, other, thing, same(other))
        for thing in odd_things() + [0, leading]:
            with self.subTest(thing=repr(thing)), self.assertRaises(NoLeading):
                joined(one, other, other, leading, thing)
        third = System(FRACTIONS, 2, [])
        for systems in ((third, other, other), (one, third, other), (one, other, third), (third, third, other)):
            for first, second in ((leading, same(other)), (None, None), (leading, None), (Stubborn(), same(other))):
                with self.assertRaises(Unlike):
                    joined(systems[0], systems[1], systems[2], first, second)

    def test_told_anew_and_by_name(self):
        one, other, leading = restricted(SEVEN)
        first = joined(second=same(other), first=leading, third=other, other=other, one=one)
        self.assertEqual((type(first), type(first[0]), type(first[1]), type(first[1][0])), (tuple, list, list, list))
        first[1][0].clear()
        first[1].clear()
        first[0].clear()
        self.assertEqual(joined(one, other, other, leading, same(other)), leading)
        self.assertIs(is_leading(one, other, leading), True)


if __name__ == "__main__":
    unittest.main()
