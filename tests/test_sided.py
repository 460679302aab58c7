"""Papers of the second kind (points 20 and 21, and 2 and 3)."""

import copy
import unittest

from falsesums.errors import NoDegree, NoField
from falsesums.fields import Field
from falsesums.fillings import fillings
from falsesums.mixtures import mixed
from falsesums.papers import lets_showing, lets_worths, worths_of
from falsesums.sided import bracket_sum, is_bracket, lets_sided, lets_sided_worths, sided_of
from falsesums.sums import Sum
from falsesums.systems import System
from falsesums.telling import told
from tests.helper import (FRACTIONS, SOME_FIELDS, Stubborn, added_by_hand, all_rows, bracket_at, brackets_by_hand, constant,
                          guests, linear, odd_things, place, products_by_hand, seeded, sided_by_hand, sided_told,
                          sided_worths_by_hand, some_sum, some_system)

ONE = (1, 1)
MINUS = (-1, 1)
SEVEN = Field(7)
NO_DEGREES = [-1, 301, 10 ** 40, 1.0] + odd_things()
# Of the odd things one is a bracket, the empty one.
NO_BRACKETS = [thing for thing in odd_things() if repr(thing) != "((), ())"]
NO_BRACKETS += [((0,), (0,)), ((0, 1), (1, 2)), ((1, 0), ()), ((), (2, 1)), ((0, 0), ()), ((60,), ()),
                ((), (-1,)), ((True,), ()), ((), (True,)), ([0], ()), ((), [0]), [(0,), (1,)],
                ((0,), (1,), (2,)), ((0,),), (0, 1), ("0", ()), ((0,), None), (None, ()), ((Stubborn(),), ())]


class Brackets(unittest.TestCase):
    def test_is_bracket(self):
        for thing in (((), ()), ((0,), ()), ((), (0,)), ((1, 3), (0, 2, 59)), (tuple(range(0, 60, 2)), tuple(range(1, 60, 2))),
                      ((), tuple(range(60))), (tuple(range(60)), ())):
            self.assertIs(is_bracket(thing), True)
            self.assertIs(is_bracket(thing=thing), True)

    def test_anything_else(self):
        for thing in NO_BRACKETS:
            with self.subTest(thing=repr(thing)):
                self.assertIs(is_bracket(thing), False)

    def test_the_sum_at_each_filling(self):
        for bracket in brackets_by_hand(4, 4):
            one = bracket_sum(bracket)
            self.assertEqual(one.field(), FRACTIONS)
            for row in all_rows(4):
                self.assertEqual(one.worth(row), (bracket_at(bracket, row), 1))

    def test_the_sum_plainly(self):
        self.assertEqual(bracket_sum(((), ())), constant(FRACTIONS, 1))
        self.assertEqual(str(bracket_sum(((0, 3), ()))), "x0*x3")
        self.assertEqual(str(bracket_sum(((), (2,)))), "1 - x2")
        self.assertEqual(str(bracket_sum(((1,), (0, 2)))), "x1 - x0*x1 - x1*x2 + x0*x1*x2")
        self.assertEqual(bracket_sum(bracket=((), (59,))), Sum(FRACTIONS, [((), ONE), ((59,), MINUS)]))

    def test_many_places(self):
        self.assertEqual(len(bracket_sum((tuple(range(12, 60)), tuple(range(12))))), 4096)
        self.assertEqual(len(bracket_sum((tuple(range(60)), ()))), 1)


# Two places should come to 3: what lacks of both is 1 too little.
THREE = System(FRACTIONS, 2, [linear(FRACTIONS, [0, 1], 3)])
THREE_SHOWING = ([constant(FRACTIONS, 1)], [(((), (0,)), None, ONE), (((), (1,)), None, ONE)])
# The first place should not be less than the second, nor the second than 1/2, but their product is nought.
UPPERS = System(FRACTIONS, 2, [place(0).times(place(1))],
                [place(0).plus(place(1).scaled(MINUS)), place(1).plus(constant(FRACTIONS, -1, 2))])
# x1*(x0 - x1) = x0*x1 - x1, and 2*(x1 - 1/2) = 2*x1 - 1: with -2*x0*x1, and the first one twice, that is -1.
UPPERS_SHOWING = ([constant(FRACTIONS, -2)], [(((1,), ()), 0, (2, 1)), (((), ()), 1, (2, 1))])


class SidedShowings(unittest.TestCase):
    def test_at_each_degree(self):
        for system, showing, least in ((THREE, THREE_SHOWING, 1), (UPPERS, UPPERS_SHOWING, 2)):
            for degree in (0, 1, 2, 3, 4, 299, 300):
                with self.subTest(degree=degree):
                    self.assertIs(lets_sided(system, degree, showing), degree >= least)

    def test_by_hand(self):
        chance = seeded(20)
        let_by = 0
        for turn in range(150):
            system = some_system(FRACTIONS, chance, most_places=3, uppers=2)
            degree = chance.randint(0, 5)
            rows = [(chance.choice(brackets_by_hand(system.places(), 3)),
                     chance.choice([None] + list(range(len(system.uppers())))),
                     (chance.randint(1, 3), chance.choice([1, 5])) if turn % 2 else (chance.randint(-1, 2), 1))
                    for _ in range(chance.randint(0, 3))]
            multipliers = [some_sum(FRACTIONS, system.places(), 2, chance) for _ in system.noughts()]
            if turn % 3:
                # One more wish makes all come to -1.
                pairs = list(zip(multipliers, system.noughts()))
                pairs += [(bracket_sum(bracket).scaled(share),
                           constant(FRACTIONS, 1) if number is None else system.uppers()[number])
                          for bracket, number, share in rows]
                totals = added_by_hand(FRACTIONS, pairs)
                missing = Sum(FRACTIONS, [((), MINUS)] + [(product, (-total.numerator, total.denominator))
                                                          for product, total in totals.items()])
                system = System(FRACTIONS, system.places(), system.noughts() + [missing], system.uppers())
                multipliers = multipliers + [constant(FRACTIONS, 1)]
            wanted = sided_by_hand(system, degree, (multipliers, rows))
            let_by += wanted
            self.assertIs(lets_sided(system, degree, (multipliers, rows)), wanted)
        self.assertGreater(let_by, 20)

    def test_just_one_of_the_two(self):
        chance = seeded(21)
        words = []
        for _ in range(60):
            system = some_system(FRACTIONS, chance, most_places=3, most_noughts=2, uppers=2)
            degree = chance.randint(0, 4)
            word, paper = sided_told(system, degree)
            words.append(word)
            if word == "showing":
                self.assertIs(lets_sided(system, degree, paper), True)
                self.assertIs(lets_sided(system, degree + 1, paper), True)
                self.assertEqual(fillings(system, True), [])
            else:
                self.assertIs(lets_sided_worths(system, degree, paper), True)
                self.assertEqual(told(system, degree)[0], "worths")
        self.assertGreater(words.count("showing"), 10)
        self.assertGreater(words.count("worths"), 10)

    def test_rows_alone(self):
        system = System(FRACTIONS, 1, [], [constant(FRACTIONS, -2), place(0).scaled(MINUS)])
        self.assertIs(lets_sided(system, 0, ([], [(((), ()), 0, (1, 2))])), True)
        self.assertIs(lets_sided(system, 0, ([], [(((), ()), 0, (1, 4)), (((), ()), 0, (1, 4))])), True)
        self.assertIs(lets_sided(system, 0, ([], [(((), ()), 0, (1, 3))])), False)
        self.assertIs(lets_sided(system, 1, ([], [(((), ()), 0, (1, 1)), (((0,), ()), None, ONE), (((), (0,)), None, ONE)])),
                      True)
        self.assertIs(lets_sided(system, 0, ([], [(((), ()), 0, (1, 1)), (((0,), ()), None, ONE), (((), (0,)), None, ONE)])),
                      False)
        self.assertIs(lets_sided(system, 3, ([], [])), False)

    def test_a_multiplier_put_otherwise(self):
        good, rows = THREE_SHOWING
        for thing in ([], good + good, [good[0].plus(place(0))], [constant(FRACTIONS, 2)], [Sum(FRACTIONS)],
                      [constant(SEVEN, 1)], [constant(FRACTIONS, -1)], [None], [Stubborn()], [1]):
            self.assertIs(lets_sided(THREE, 5, (thing, rows)), False)
        # A place that the system has not, beside a wish that is nought.
        system = System(FRACTIONS, 2, THREE.noughts() + [Sum(FRACTIONS)])
        self.assertIs(lets_sided(system, 5, (good + [place(1)], rows)), True)
        self.assertIs(lets_sided(system, 5, (good + [place(2)], rows)), False)
        self.assertIs(lets_sided(system, 1, (good + [place(0).times(place(1))], rows)), False)

    def test_a_nought_sum_beside_a_wish_of_any_degree(self):
        tall = Sum(FRACTIONS, [((0, 1), ONE), ((), MINUS)])
        system = System(FRACTIONS, 2, [tall] + THREE.noughts() + [tall])
        thing = ([Sum(FRACTIONS)] + THREE_SHOWING[0] + [Sum(FRACTIONS)], THREE_SHOWING[1])
        self.assertIs(lets_sided(system, 1, thing), True)
        only = System(FRACTIONS, 2, [tall], [constant(FRACTIONS, -1)])
        self.assertIs(lets_sided(only, 0, ([Sum(FRACTIONS)], [(((), ()), 0, ONE)])), True)

    def test_a_share_put_otherwise(self):
        multipliers, rows = UPPERS_SHOWING
        for at in range(2):
            for share in odd_things() + [(0, 1), (-2, 1), (4, 2), (2, -1), 2, (1, 1), (2, True), [2, 1], (2, 1, 1), (True, 1)]:
                changed = list(rows)
                changed[at] = (rows[at][0], rows[at][1], share)
                with self.subTest(share=repr(share)):
                    self.assertIs(lets_sided(UPPERS, 4, (multipliers, changed)), False)
            # A share of nought, or two that cancel out, may not be among the rows.
            self.assertIs(lets_sided(UPPERS, 4, (multipliers, rows + [(((0,), ()), None, (0, 1))])), False)
            self.assertIs(lets_sided(UPPERS, 4, (multipliers, rows + [(((0,), ()), None, ONE), (((0,), ()), None, MINUS)])),
                          False)

    def test_a_number_put_otherwise(self):
        multipliers, rows = UPPERS_SHOWING
        for at in range(2):
            for number in odd_things() + [-1, 2, 200, 1 - rows[at][1], None]:
                changed = list(rows)
                changed[at] = (rows[at][0], number, rows[at][2])
                with self.subTest(number=repr(number)):
                    self.assertIs(lets_sided(UPPERS, 4, (multipliers, changed)), False)
        # True and False are no numbers, though Python takes them for 1 and 0.
        self.assertIs(lets_sided(UPPERS, 4, (multipliers, [(((1,), ()), False, (2, 1)), rows[1]])), False)
        self.assertIs(lets_sided(UPPERS, 4, (multipliers, [rows[0], (((), ()), True, (2, 1))])), False)

    def test_a_bracket_put_otherwise(self):
        multipliers, rows = UPPERS_SHOWING
        for at in range(2):
            for bracket in NO_BRACKETS + [((0,), ()), ((), (1,)), ((5,), ())]:
                changed = list(rows)
                changed[at] = (bracket,) + rows[at][1:]
                with self.subTest(bracket=repr(bracket)):
                    self.assertIs(lets_sided(UPPERS, 4, (multipliers, changed)), False)

    def test_the_form_of_all(self):
        multipliers, rows = UPPERS_SHOWING
        for thing in ([multipliers, rows], (tuple(multipliers), rows), (multipliers, tuple(rows)), (rows, multipliers),
                      (multipliers,), (multipliers, rows, rows), (multipliers, [list(row) for row in rows]),
                      (multipliers, [row + (1,) for row in rows]), (multipliers, [row[:2] for row in rows]),
                      (multipliers, {0: rows[0], 1: rows[1]}), (multipliers, None), (None, rows), multipliers, rows,
                      (multipliers, [rows]), (multipliers, rows + [None]), (multipliers, [Stubborn()] + rows)):
            with self.subTest(thing=repr(thing)):
                self.assertIs(lets_sided(UPPERS, 4, thing), False)
        for thing in odd_things() + [0, "showing"]:
            with self.subTest(thing=repr(thing)):
                self.assertIs(lets_sided(UPPERS, 4, thing), False)

    def test_sizes_and_degrees(self):
        upper = Sum(FRACTIONS, [((0, 1), MINUS), ((), MINUS)])
        system = System(FRACTIONS, 4, [], [upper])
        # -(1 + x0*x1) times what is held of x2 and of what lacks of it, and x0*x1.
        rows = [(((2,), ()), 0, ONE), (((), (2,)), 0, ONE), (((0, 1), ()), None, ONE)]
        self.assertIs(lets_sided(system, 3, ([], rows)), True)
        self.assertIs(lets_sided(system, 2, ([], rows)), False)
        rows = [(((), ()), 0, ONE), (((0, 1, 3), ()), None, ONE), (((0, 1), (3,)), None, ONE)]
        self.assertIs(lets_sided(system, 3, ([], rows)), True)
        self.assertIs(lets_sided(system, 2, ([], rows)), False)

    def test_uppers_that_a_bracket_makes_nought(self):
        system = System(FRACTIONS, 2, [], [place(0).plus(constant(FRACTIONS, -1))])
        # (1 - x0)*(x0 - 1) = x0 - 1, and x0 times it is nought.
        rows = [(((), (0,)), 0, ONE), (((0,), ()), 0, (5, 1))]
        self.assertIs(lets_sided(System(FRACTIONS, 2, [place(0)], system.uppers()), 2, ([constant(FRACTIONS, -1)], rows)),
                      True)
        self.assertIs(lets_sided(System(FRACTIONS, 2, [place(0)], system.uppers()), 2, ([constant(FRACTIONS, 1)], rows)),
                      False)

    def test_long_brackets(self):
        # All of sixty places lack, or the first one that is held has only lacking ones ahead.
        rows = [(((), tuple(range(60))), None, ONE)]
        rows += [(((at,), tuple(range(at))), None, ONE) for at in range(60)]
        system = System(FRACTIONS, 60, [constant(FRACTIONS, 2)])
        self.assertIs(lets_sided(system, 60, ([constant(FRACTIONS, -1)], rows)), True)
        self.assertIs(lets_sided(system, 59, ([constant(FRACTIONS, -1)], rows)), False)
        self.assertIs(lets_sided(system, 60, ([constant(FRACTIONS, -1)], rows[1:])), False)
        self.assertIs(lets_sided(system, 60, ([constant(FRACTIONS, -1)], rows[:-1])), False)
        self.assertIs(lets_sided(system, 60, ([constant(FRACTIONS, -1)], rows + rows[-1:])), False)

    def test_over_a_prime(self):
        for field in SOME_FIELDS[1:]:
            system = System(field, 1, [constant(field, 1)])
            for degree in (0, 1, None, 301, Stubborn()):
                for thing in (([constant(field, -1)], []), None, Stubborn()):
                    for lets in (lets_sided, lets_sided_worths):
                        with self.assertRaises(NoField):
                            lets(system, degree, thing)

    def test_no_degree(self):
        for degree in NO_DEGREES:
            for thing in (THREE_SHOWING, {}, None, Stubborn()):
                for lets in (lets_sided, lets_sided_worths):
                    with self.subTest(degree=repr(degree)), self.assertRaises(NoDegree):
                        lets(THREE, degree, thing)

    def test_by_name_in_any_order(self):
        self.assertIs(lets_sided(thing=THREE_SHOWING, degree=1, system=THREE), True)

    def test_what_is_handed_in_stays(self):
        multipliers, rows = list(UPPERS_SHOWING[0]), copy.deepcopy(UPPERS_SHOWING[1])
        lets_sided(UPPERS, 3, (multipliers, rows))
        self.assertEqual((multipliers, rows), UPPERS_SHOWING)


class SidedWorths(unittest.TestCase):
    def test_of_all_round_fillings_and_their_mixtures(self):
        chance = seeded(210)
        seen = 0
        for _ in range(40):
            system = some_system(FRACTIONS, chance, most_places=3, most_noughts=1, uppers=1)
            found = fillings(system, True)
            for degree in (0, 1, 2, 4, 300):
                for filling in found:
                    self.assertIs(lets_sided_worths(system, degree, worths_of(system, degree, filling)), True)
                if found:
                    seen += 1
                    shares = [chance.randint(1, 5) for _ in found]
                    weights = {filling: FRACTIONS.made(share, sum(shares)) for filling, share in zip(found, shares)}
                    self.assertIs(lets_sided_worths(system, degree, mixed(system, degree, weights)), True)
        self.assertGreater(seen, 60)

    def test_of_a_filling_that_is_not_all_round(self):
        system = System(FRACTIONS, 2, [linear(FRACTIONS, [0, 1], 1)], [place(0).plus(constant(FRACTIONS, -1, 2))])
        for degree in (0, 1, 2, 5):
            self.assertIs(lets_sided_worths(system, degree, worths_of(system, degree, (1, 0))), True)
            self.assertIs(lets_worths(system, degree, worths_of(system, degree, (0, 1))), True)
            self.assertIs(lets_sided_worths(system, degree, worths_of(system, degree, (0, 1))), degree == 0)

    def test_by_hand(self):
        chance = seeded(211)
        let_by = 0
        for turn in range(150):
            system = some_system(FRACTIONS, chance, most_places=3, most_noughts=turn % 2, uppers=2)
            degree = chance.randint(0, 4)
            word, paper = told(system, degree)
            if word == "worths":
                if not system.noughts():
                    # Near the worths of all fillings alike, where brackets are worth a little.
                    paper = {product: FRACTIONS.made(60 + chance.randint(-30, 30) * (product != ()),
                                                     60 * 2 ** len(product)) for product in paper}
                wanted = sided_worths_by_hand(system, degree, paper)
                let_by += wanted
                self.assertIs(lets_sided_worths(system, degree, paper), wanted)
        self.assertGreater(let_by, 15)

    def test_places_that_come_to_one_and_a_half(self):
        system = System(FRACTIONS, 3, [linear(FRACTIONS, range(3), 0).plus(constant(FRACTIONS, -3, 2))])
        known = [(1, 1), (1, 2), (1, 8), (-1, 16)]
        for degree in range(4):
            worths = {product: known[len(product)] for product in products_by_hand(3, degree)}
            self.assertIs(lets_worths(system, degree, worths), True)
            self.assertIs(lets_sided_worths(system, degree, worths), degree < 3)

    def test_each_bracket_counts(self):
        system = System(FRACTIONS, 3, [])
        for bracket in brackets_by_hand(3, 3):
            size = len(bracket[0]) + len(bracket[1])
            for degree in (size, 3):
                # By fillings at which the bracket is 0, and a little less than nothing of one at which it is 1.
                weights = {row: (1, 1) for row in all_rows(3) if not bracket_at(bracket, row)}
                if not weights:
                    continue
                wrong = [row for row in all_rows(3) if bracket_at(bracket, row)][0]
                weights = {row: FRACTIONS.made(1000001, 1000000 * len(weights)) for row in weights}
                weights[wrong] = (-1, 1000000)
                self.assertIs(lets_sided_worths(system, degree, mixed(system, degree, weights)), False)

    def test_each_upper_times_each_bracket_counts(self):
        chance = seeded(212)
        for bracket in brackets_by_hand(2, 2):
            upper = Sum(FRACTIONS)
            for row in all_rows(2):
                # Below nought just where the bracket is 1, by the least bit.
                share = (-1, 10 ** 9) if bracket_at(bracket, row) else (chance.randint(1, 3), 1)
                upper = upper.plus(bracket_sum((tuple(at for at in (0, 1) if row[at]),
                                                tuple(at for at in (0, 1) if not row[at]))).scaled(share))
            rows = [row for row in all_rows(2) if bracket_at(bracket, row)]
            size = len(bracket[0]) + len(bracket[1])
            for uppers in ([upper], [place(0), upper], [upper, place(1)]):
                system = System(FRACTIONS, 2, [], uppers)
                degree = upper.degree() + size
                worths = mixed(system, degree, {row: (1, len(rows)) for row in rows})
                self.assertIs(lets_sided_worths(system, degree, worths), False)
                self.assertIs(lets_sided_worths(System(FRACTIONS, 2, []), degree, worths), True)

    def test_uppers_above_the_degree_do_not_count(self):
        system = System(FRACTIONS, 3, [], [Sum(FRACTIONS, [((0, 1, 2), MINUS)])])
        for degree in range(5):
            worths = worths_of(system, degree, (1, 1, 1))
            self.assertIs(lets_sided_worths(system, degree, worths), degree < 3)

    def test_uppers_that_are_numbers(self):
        for degree in (0, 2, 5):
            for top in (-1, 0, 1):
                system = System(FRACTIONS, 2, [], [constant(FRACTIONS, top)])
                worths = worths_of(system, degree, (0, 1))
                self.assertIs(lets_sided_worths(system, degree, worths), top >= 0)

    def test_what_are_no_worths(self):
        system = System(FRACTIONS, 2, [linear(FRACTIONS, [0, 1], 1)])
        good = worths_of(system, 2, (1, 0))
        wrong = [good | {(): (2, 1)}, good | {(1,): ONE}, good | {(2,): (0, 1)}, {(): ONE}, list(good.items()),
                 worths_of(System(FRACTIONS, 2, []), 2, (1, 1)), worths_of(system, 1, (1, 0)), ("worths", good)]
        for thing in odd_things() + wrong:
            with self.subTest(thing=repr(thing)):
                self.assertIs(lets_sided_worths(system, 2, thing), False)
        self.assertIs(lets_sided_worths(system, 2, good), True)

    def test_many_products(self):
        for places, degree in ((14, 14), (26, 4), (49, 3)):
            system = System(FRACTIONS, places, [linear(FRACTIONS, [0, 1], 1)], [place(0), place(3)])
            worths = worths_of(system, degree, (1, 0) + (1,) * (places - 2))
            self.assertIs(lets_sided_worths(system, degree, worths), True)
            worths[tuple(range(places - degree, places))] = (2, 1)
            self.assertIs(lets_sided_worths(system, degree, worths), False)

    def test_by_name_in_any_order(self):
        self.assertIs(lets_sided_worths(thing={(): ONE}, degree=0, system=THREE), True)

    def test_what_is_handed_in_stays(self):
        worths = worths_of(UPPERS, 2, (0, 1))
        kept = dict(worths)
        lets_sided_worths(UPPERS, 2, worths)
        self.assertEqual(list(worths.items()), list(kept.items()))


class SidedOf(unittest.TestCase):
    def test_let_by_at_the_same_degree(self):
        chance = seeded(213)
        seen = 0
        for _ in range(80):
            system = some_system(FRACTIONS, chance, most_noughts=4, uppers=1)
            degree = chance.randint(0, 5)
            word, paper = told(system, degree)
            if word == "showing":
                seen += 1
                sided = sided_of(paper)
                self.assertEqual(sided[1], [])
                self.assertEqual([one.scaled(MINUS) for one in sided[0]], paper)
                self.assertIs(lets_sided(system, degree, sided), True)
                self.assertIs(lets_showing(system, degree, sided[0]), False)
        self.assertGreater(seen, 15)

    def test_guests_and_rooms(self):
        system = guests(FRACTIONS, 3, 2)
        showing = told(system, 1)[1]
        self.assertIs(lets_sided(system, 1, sided_of(showing)), True)
        self.assertIs(lets_sided(system, 0, sided_of(showing)), False)

    def test_plainly(self):
        self.assertEqual(sided_of([]), ([], []))
        self.assertEqual(sided_of([constant(FRACTIONS, 2), Sum(FRACTIONS)]), ([constant(FRACTIONS, -2), Sum(FRACTIONS)], []))

    def test_what_is_handed_in_and_told(self):
        showing = [constant(FRACTIONS, 2)]
        first = sided_of(showing)
        self.assertIs(type(first), tuple)
        first[0].clear()
        first[1].append(None)
        self.assertEqual(showing, [constant(FRACTIONS, 2)])
        self.assertEqual(sided_of(showing), ([constant(FRACTIONS, -2)], []))

    def test_over_a_prime(self):
        with self.assertRaises(NoField):
            sided_of([constant(SEVEN, 1)])

    def test_by_name(self):
        self.assertEqual(sided_of(showing=[]), ([], []))


class Never(unittest.TestCase):
    def test_a_sided_showing_and_sided_worths(self):
        # By sided worths a sided showing would be worth nothing less than nought.
        for row in all_rows(2):
            for system, degree in ((THREE, 1), (UPPERS, 2)):
                worths = worths_of(System(FRACTIONS, 2, []), degree, row)
                self.assertIs(lets_sided_worths(system, degree, worths), False)


if __name__ == "__main__":
    unittest.main()
