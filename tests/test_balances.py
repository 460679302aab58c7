"""Shares and weights (point 19, and 2)."""

import copy
import unittest
from fractions import Fraction
from unittest import mock

from falsesums import bases
from falsesums.balances import balance, stepped, whole_column
from tests.helper import FRACTIONS, fraction_of, number_of, seeded

# Tables by which plain steps are known to go round for ever: of goals, and what is paid for columns.
BEALE = ([[(1, 4), (-8, 1), (-1, 1), (9, 1)], [(1, 2), (-12, 1), (-1, 2), (3, 1)], [(0, 1), (0, 1), (1, 1), (0, 1)]],
         [(0, 1), (0, 1), (1, 1)], [(3, 4), (-20, 1), (1, 2), (-6, 1)])
KUHN = ([[(-2, 1), (-9, 1), (1, 1), (9, 1)], [(1, 3), (1, 1), (-1, 3), (-2, 1)]],
        [(0, 1), (0, 1)], [(2, 1), (3, 1), (-1, 1), (-12, 1)])
CHVATAL = ([[(1, 2), (-11, 2), (-5, 2), (9, 1)], [(1, 2), (-3, 2), (-1, 2), (1, 1)], [(1, 1), (0, 1), (0, 1), (0, 1)]],
           [(0, 1), (0, 1), (1, 1)], [(10, 1), (-57, 1), (-9, 1), (-24, 1)])


def fractions_of(rows):
    return [[number_of(FRACTIONS, number) for number in row] for row in rows]


def made_goal(columns, shares, size):
    """What the columns, Fractions, come to by the shares."""
    return [sum((share * column[at] for column, share in zip(columns, shares)), Fraction(0)) for at in range(size)]


class Balancing(unittest.TestCase):
    def looked_at(self, columns, goal, told):
        """The word, what is told by it being added up here."""
        self.assertIs(type(told), tuple)
        word, paper = told
        self.assertIs(type(paper), list)
        self.assertTrue(all(FRACTIONS.is_number(number) for number in paper))
        paper = [fraction_of(number) for number in paper]
        rows = [[fraction_of(number) for number in column] for column in columns]
        aim = [fraction_of(number) for number in goal]
        if word == "shares":
            self.assertEqual(len(paper), len(columns))
            self.assertTrue(all(share >= 0 for share in paper))
            kept = [(share, row) for share, row in zip(paper, rows) if share]
            self.assertEqual(made_goal([row for _, row in kept], [share for share, _ in kept], len(goal)), aim)
        else:
            self.assertEqual((word, len(paper)), ("weights", len(goal)))
            kept = [at for at, weight in enumerate(paper) if weight]
            for row in rows:
                self.assertGreaterEqual(sum(paper[at] * row[at] for at in kept), 0)
            self.assertLess(sum(paper[at] * aim[at] for at in kept), 0)
        return word

    def both_ways(self, columns, goal):
        """The word that is told, also where all is found step by step."""
        word = self.looked_at(columns, goal, balance(columns, goal))
        whole = [whole_column(column) for column in columns]
        aim, factor = whole_column(goal)
        steps = stepped([column for column, _ in whole], aim, len(goal))
        if steps[0] == "shares":
            shares = [(0, 1)] * len(columns)
            for at, share in steps[1].items():
                shares[at] = FRACTIONS.over(FRACTIONS.times(share, whole[at][1]), factor)
            steps = ("shares", shares)
        self.assertEqual(self.looked_at(columns, goal, steps), word)
        return word


class Balance(Balancing):
    def test_made_and_beyond(self):
        chance = seeded(19)
        words = []
        kinds = [lambda: Fraction(chance.randint(-9, 9), chance.randint(1, 6)), lambda: Fraction(chance.randint(-1, 1)),
                 lambda: Fraction(chance.choice([0, 0, 0, 0, 1, -1, 2])), lambda: Fraction(chance.randint(0, 3)),
                 lambda: Fraction(chance.randint(-10 ** 12, 10 ** 12)), lambda: Fraction(chance.randint(-2, 2))]
        for turn in range(900):
            number = kinds[turn % len(kinds)]
            size, many = chance.randint(1, 6), chance.randint(0, 9)
            columns = [[number() for _ in range(size)] for _ in range(many)]
            if columns and turn % 4 == 0:
                columns += [[one * chance.randint(-2, 3) for one in chance.choice(columns)] for _ in range(3)]
            made = turn % 2 == 0
            shares = [Fraction(chance.randint(0, 3), chance.randint(1, 3)) * chance.randint(0, 1) for _ in columns]
            goal = made_goal(columns, shares, size) if made else [number() for _ in range(size)]
            columns, goal = fractions_of(columns), fractions_of([goal])[0]
            word = self.both_ways(columns, goal)
            words.append(word)
            if made:
                self.assertEqual(word, "shares")
        self.assertGreater(words.count("weights"), 150)

    def test_plainly(self):
        self.assertEqual(balance([[(1, 2)]], [(3, 1)]), ("shares", [(6, 1)]))
        self.assertEqual(balance([[(1, 1), (0, 1)], [(0, 1), (2, 3)]], [(5, 1), (1, 1)]), ("shares", [(5, 1), (3, 2)]))
        self.assertEqual(self.both_ways([[(1, 2)]], [(-3, 1)]), "weights")
        self.assertEqual(self.both_ways([[(1, 1), (1, 1)]], [(1, 1), (2, 1)]), "weights")
        self.assertEqual(self.both_ways([[(1, 1), (1, 1)], [(1, 1), (2, 1)]], [(1, 1), (3, 1)]), "weights")
        self.assertEqual(self.both_ways([[(1, 1), (1, 1)], [(1, 1), (3, 1)]], [(2, 1), (5, 1)]), "shares")

    def test_no_columns(self):
        for size in (1, 2, 700):
            self.assertEqual(balance([], [(0, 1)] * size), ("shares", []))
            for at in {0, size - 1}:
                for number in ((1, 1), (-1, 3)):
                    goal = [(0, 1)] * size
                    goal[at] = number
                    self.assertEqual(self.both_ways([], goal), "weights")

    def test_columns_and_goals_of_noughts(self):
        none = [(0, 1)] * 3
        self.assertEqual(self.both_ways([none, none], none), "shares")
        self.assertEqual(self.both_ways([none, none], [(0, 1), (1, 2), (0, 1)]), "weights")
        self.assertEqual(self.both_ways([none, [(0, 1), (1, 1), (0, 1)], none], [(0, 1), (1, 2), (0, 1)]), "shares")
        self.assertEqual(self.both_ways([[(1, 1), (-1, 1), (2, 1)]], none), "shares")
        self.assertEqual(self.both_ways([[(1, 1), (-1, 1), (2, 1)], [(-1, 1), (1, 1), (-2, 1)]], none), "shares")

    def test_many_alike_columns(self):
        one, other = [(1, 1), (-2, 1), (0, 1)], [(0, 1), (1, 1), (1, 1)]
        self.assertEqual(self.both_ways([one] * 50 + [other] * 50, [(1, 1), (0, 1), (2, 1)]), "shares")
        self.assertEqual(self.both_ways([one] * 50 + [other] * 50, [(-1, 1), (3, 1), (1, 1)]), "weights")
        self.assertEqual(self.both_ways([one] * 50 + [other] * 50, [(1, 1), (1, 1), (1, 1)]), "weights")

    def test_columns_times_each_other(self):
        base = [Fraction(1), Fraction(-2), Fraction(1, 3)]
        columns = fractions_of([[one * factor for one in base] for factor in (1, Fraction(2, 7), 5, -1, -3, 0)])
        for factor in (4, -4, 0, Fraction(1, 9), Fraction(-1, 9)):
            self.assertEqual(self.both_ways(columns, fractions_of([[one * factor for one in base]])[0]), "shares")
            self.assertEqual(self.both_ways(columns[:3], fractions_of([[one * factor for one in base]])[0]),
                             "shares" if factor >= 0 else "weights")
        self.assertEqual(self.both_ways(columns, fractions_of([[1, -2, Fraction(1, 2)]])[0]), "weights")

    def test_tables_by_which_steps_could_go_round(self):
        for rows, limits, gains in (BEALE, KUHN, CHVATAL):
            size = len(rows)
            # Each row with what is left over, and a last row: what is gained is at least so much.
            columns = [[row[at] for row in rows] + [gains[at]] for at in range(len(gains))]
            columns += [[(int(at == place), 1) for place in range(size)] + [(0, 1)] for at in range(size)]
            columns += [[(0, 1)] * size + [(-1, 1)]]
            words = [self.both_ways(columns, limits + [least])
                     for least in ((0, 1), (1, 100), (1, 2), (1, 1), (5, 4), (7, 1), (-3, 1))]
            self.assertIn("shares", words)
            turned = [[(-top, bottom) for top, bottom in column] for column in columns]
            for column in columns:
                self.both_ways(turned, column)

    def test_most_places_nought(self):
        # Cones of many edges, and goals on their edges and sides.
        chance = seeded(190)
        for size in (3, 5, 8):
            columns = [[Fraction(chance.choice([0, 0, 1, -1])) for _ in range(size)] for _ in range(6 * size)]
            for goal in ([1] + [0] * (size - 1), [-1] + [0] * (size - 1), [0] * (size - 1) + [1], [1] * size):
                self.both_ways(fractions_of(columns), fractions_of([goal])[0])
                self.both_ways(fractions_of(columns[:size]), fractions_of([goal])[0])
            for column in columns[:4]:
                self.assertEqual(self.both_ways(fractions_of(columns), fractions_of([column])[0]), "shares")

    def test_length_one(self):
        self.assertEqual(self.both_ways([[(2, 1)]] * 4000, [(7, 3)]), "shares")
        self.assertEqual(self.both_ways([[(2, 1)]] * 4000, [(-7, 3)]), "weights")
        self.assertEqual(self.both_ways([[(0, 1)]] * 4000, [(-7, 3)]), "weights")
        self.assertEqual(self.both_ways([[(2, 1)]] * 3999 + [[(-1, 9)]], [(-7, 3)]), "shares")

    def test_four_thousand_columns_of_a_small_length(self):
        chance = seeded(191)
        for least in (-9, 0):
            columns = fractions_of([[chance.randint(least, 9) for _ in range(4)] for _ in range(4000)])
            self.assertEqual(self.both_ways(columns, fractions_of([[5, 6, 4, 5]])[0]), "shares")
            self.assertEqual(self.both_ways(columns, fractions_of([[1, 1, -9, 1]])[0]), "weights" if least == 0 else "shares")

    def test_length_seven_hundred(self):
        chance = seeded(192)
        units = [[(int(at == place), 1) for place in range(700)] for at in range(700)]
        self.assertEqual(self.looked_at(units, units[3], balance(units, units[3])), "shares")
        goal = [(1, 1)] * 699 + [(-1, 2)]
        self.assertEqual(self.looked_at(units, goal, balance(units, goal)), "weights")
        columns = [[Fraction(chance.randint(-3, 3)) for _ in range(700)] for _ in range(12)]
        goal = made_goal(columns, [Fraction(at, 3) for at in range(12)], 700)
        self.assertEqual(self.both_ways(fractions_of(columns), fractions_of([goal])[0]), "shares")
        self.assertEqual(self.both_ways(fractions_of(columns), fractions_of([[-one for one in goal]])[0]), "weights")
        goal[699] += 1
        self.assertEqual(self.both_ways(fractions_of(columns), fractions_of([goal])[0]), "weights")

    def test_length_seven_hundred_and_as_many_columns(self):
        chance = seeded(193)
        columns = []
        for at in range(700):
            column = [(0, 1)] * 700
            column[at] = (2, 1)
            column[(at + 1) % 700] = (-1, 1)
            column[chance.randrange(700)] = (1, 3)
            columns.append(column)
        goal = [(int(at % 7 == 0), 1) for at in range(700)]
        self.looked_at(columns, goal, balance(columns, goal))

    def test_many_noughts_and_many_columns(self):
        chance = seeded(194)
        columns = []
        for _ in range(150):
            column = [0] * 50
            for _ in range(4):
                column[chance.randrange(50)] = chance.choice([1, -1])
            columns.append(column)
        for goal in ([1] + [0] * 49, [-1] * 2 + [0] * 48, [chance.choice([0, 0, 1]) for _ in range(50)]):
            self.both_ways(fractions_of(columns), fractions_of([goal])[0])

    def test_numbers_of_many_figures(self):
        chance = seeded(195)
        for turn in range(12):
            size = 1 + turn % 4
            columns = [[Fraction(chance.randint(-10 ** 60, 10 ** 60), chance.randint(1, 10 ** 60)) for _ in range(size)]
                       for _ in range(6)]
            goal = made_goal(columns, [Fraction(chance.randint(0, 3)) for _ in columns], size)
            self.assertEqual(self.both_ways(fractions_of(columns), fractions_of([goal])[0]), "shares")
            self.both_ways(fractions_of(columns[:size]), fractions_of([goal])[0])

    def test_great_and_small_numbers_together(self):
        great, small = Fraction(10 ** 60), Fraction(1, 10 ** 60)
        columns = fractions_of([[great, small, 1], [small, 1, -great], [1, -great, small], [-small, small, great]])
        for goal in ([great, 0, small], [0, 0, 1], [-great, small, 1], [small, small, small]):
            self.both_ways(columns, fractions_of([goal])[0])

    def test_what_is_handed_in_and_told(self):
        columns, goal = [[(1, 1), (0, 1)], [(0, 1), (1, 1)]], [(1, 2), (-1, 3)]
        for aim in (goal, [(1, 2), (1, 3)]):
            kept = copy.deepcopy((columns, aim))
            first = balance(columns, aim)
            self.assertEqual((columns, aim), kept)
            second = balance(columns, aim)
            self.assertEqual(first, second)
            first[1].clear()
            self.assertEqual(balance(columns, aim), second)

    def test_by_name_in_any_order(self):
        self.assertEqual(balance(goal=[(1, 1)], columns=[[(2, 1)]]), ("shares", [(1, 2)]))


class Steps(Balancing):
    """Whatever is paid for columns, and however much room is left, the steps come to the same end."""

    def some_tables(self, seed):
        chance = seeded(seed)
        for turn in range(120):
            size, many = chance.randint(2, 7), chance.randint(3, 12)
            number = [lambda: chance.randint(-1, 1), lambda: chance.choice([0, 0, 1, -1]),
                      lambda: chance.choice([0, 1, -1, 10 ** 20, 1 - 10 ** 20, 7, 1 << 40])][turn % 3]
            columns = [[number() for _ in range(size)] for _ in range(many)]
            yield fractions_of(columns), fractions_of([[number() for _ in range(size)]])[0]

    def test_costs_that_are_all_nought(self):
        for most in (-1, 0, 40):
            with mock.patch.object(bases, "some_costs", lambda many: [0] * many), \
                    mock.patch.object(bases, "MOST_FREE_STEPS", most):
                for columns, goal in self.some_tables(196):
                    self.both_ways(columns, goal)

    def test_costs_that_are_all_alike(self):
        with mock.patch.object(bases, "some_costs", lambda many: [1] * many):
            for columns, goal in self.some_tables(197):
                self.both_ways(columns, goal)

    def test_each_step(self):
        swap = bases.Basis.swap

        def watched(basis, place, at, parts):
            swap(basis, place, at, parts)
            self.assertTrue(all(cost >= 0 for cost in basis.costs))
            for other, column in enumerate(basis.standing):
                if column is not None:
                    units = [basis.bottom if slot == other else 0 for slot in range(basis.size)]
                    self.assertEqual(basis.rates(column), units)

        for spare in (1, 8):
            with mock.patch.object(bases.Basis, "swap", watched), mock.patch.object(bases, "SPARE_BITS", spare):
                for columns, goal in self.some_tables(198):
                    self.both_ways(columns, goal)

    def test_with_no_more_room_than_is_needed(self):
        def tight(basis, width):
            if width > basis.width:
                basis.sides = {source: bases.packed(basis.listed(side), width) for source, side in basis.sides.items()}
                basis.width = width

        for spare in (1, 2, 8):
            with mock.patch.object(bases.Basis, "widen", tight), mock.patch.object(bases, "SPARE_BITS", spare):
                for seed in (199, 200, 201):
                    for columns, goal in self.some_tables(seed):
                        self.both_ways(columns, goal)

    def test_steps_that_would_go_round(self):
        # With costs of nought, and if that went out of which least stands, these steps would come back.
        def least(basis, places, amounts):
            return min(places, key=lambda place: (abs(amounts[place]), place))

        def watched(basis, place, at, parts):
            swap(basis, place, at, parts)
            if most == 10 ** 9 and basis.standing in seen:
                raise RecursionError("it stood so before")
            seen.append(list(basis.standing))

        rows = [[0, -1, 2, 1], [-3, -2, -1, -3], [-3, 0, -3, -3], [0, -2, 0, -1], [-3, -1, 1, -2], [-1, 1, 0, -3],
                [3, -1, 2, 0], [-3, -3, -3, 3], [-2, 1, 3, -3], [2, 2, -3, 0], [0, 1, 3, 1], [1, 0, 1, 2]]
        columns = [[(place, number) for place, number in enumerate(row) if number] for row in rows]
        goal = [3, 2, -2, 2]
        swap = bases.Basis.swap
        for most in (0, 7, 40, 10 ** 9):
            seen = []
            with mock.patch.object(bases, "some_costs", lambda many: [0] * many), \
                    mock.patch.object(bases.Basis, "worst", least), \
                    mock.patch.object(bases.Basis, "swap", watched), \
                    mock.patch.object(bases, "MOST_FREE_STEPS", most):
                if most == 10 ** 9:
                    self.assertRaises(RecursionError, stepped, columns, list(enumerate(goal)), 4)
                else:
                    word, paper = stepped(columns, list(enumerate(goal)), 4)
                    paper = [paper.get(at, (0, 1)) for at in range(len(rows))] if word == "shares" else paper
                    self.looked_at(fractions_of(rows), fractions_of([goal])[0], (word, paper))
                    self.assertGreater(len(seen), most)

    def test_columns_of_either_sign(self):
        # As if each of them stood there twice, once with all signs turned.
        chance = seeded(203)
        words = []
        for turn in range(300):
            size, many, either = chance.randint(1, 5), chance.randint(0, 7), chance.randint(0, 4)
            rows = [[chance.randint(-2, 2) for _ in range(size)] for _ in range(either + many)]
            if either > 1 and turn % 2:
                rows[1] = [2 * number for number in rows[0]]
            goal = [chance.randint(-2, 2) for _ in range(size)]
            columns = [[(at, number) for at, number in enumerate(row) if number] for row in rows]
            word, paper = stepped(columns, [(at, number) for at, number in enumerate(goal) if number], size, either)
            words.append(word)
            turned = [[-number for number in row] for row in rows[:either]]
            self.assertEqual(balance(fractions_of(rows + turned), fractions_of([goal])[0])[0], word)
            if word == "shares":
                shares = [fraction_of(paper.get(at, (0, 1))) for at in range(len(rows))]
                self.assertTrue(all(share >= 0 for share in shares[either:]))
                self.assertEqual(made_goal(rows, shares, size), goal)
            else:
                self.looked_at(fractions_of(rows + turned), fractions_of([goal])[0], (word, paper))
        self.assertGreater(words.count("shares"), 50)
        self.assertGreater(words.count("weights"), 50)

    def test_costs_have_no_pattern(self):
        self.assertGreater(len(set(bases.some_costs(4000))), 3990)
        self.assertTrue(all(cost > 0 for cost in bases.some_costs(4000)))


if __name__ == "__main__":
    unittest.main()
