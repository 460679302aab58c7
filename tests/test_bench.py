"""A bench (point 28, and 2 and 3)."""

import copy
import unittest

from falsesums.bench import Bench
from falsesums.errors import NoDegree, NoField, NoSystem, NoWish, TooMany
from falsesums.fields import Field
from falsesums.papers import cut, lets_showing, lets_worths
from falsesums.sided import lets_sided, lets_sided_worths
from falsesums.sidedtelling import told_sided
from falsesums.sums import Sum
from falsesums.systems import System
from falsesums.telling import told
from tests.helper import (FRACTIONS, SOME_FIELDS, Stubborn, constant, guests, linear, odd_things, place, seeded, some_sum,
                          some_system)

ONE = (1, 1)
MINUS = (-1, 1)
TWO = Field(2)
SEVEN = Field(7)
NO_DEGREES = [-1, 301, 10 ** 40, 1.0] + odd_things()


def lets(system, degree, sided, word, paper):
    if word == "showing":
        return (lets_sided if sided else lets_showing)(system, degree, paper)
    return (lets_sided_worths if sided else lets_worths)(system, degree, paper)


def multipliers(sided, paper):
    return paper[0] if sided else paper


def with_multipliers(sided, paper, changed):
    return (changed, paper[1]) if sided else changed


class Double:
    """What a bench should keep, written plainly: the papers are those that it told."""

    def __init__(self, system):
        self.system, self.put_in, self.papers = system, [], []

    def serving(self, degree, sided):
        """The papers that serve, as they would be told."""
        found = []
        for kind, word, known, paper in self.papers:
            if kind == sided and word == "showing" and known <= degree:
                found.append((word, paper))
            if kind == sided and word == "worths" and known >= degree:
                found.append((word, cut(paper, degree)))
        return found

    def put(self, wish, upper):
        old = self.system
        self.put_in.append(upper)
        if upper:
            self.system = System(old.field(), old.places(), old.noughts(), old.uppers() + [wish])
        else:
            self.system = System(old.field(), old.places(), old.noughts() + [wish], old.uppers())
        kept = []
        for sided, word, degree, paper in self.papers:
            if word == "showing" and not upper:
                paper = with_multipliers(sided, paper, multipliers(sided, paper) + [Sum(old.field())])
            if word == "showing" or lets(self.system, degree, sided, word, paper):
                kept.append((sided, word, degree, paper))
        self.papers = kept

    def back(self):
        old, kept = self.system, []
        upper = self.put_in.pop()
        last = len(old.uppers()) - 1
        for sided, word, degree, paper in self.papers:
            if word == "showing" and not upper:
                sums = multipliers(sided, paper)
                if len(sums[-1]):
                    continue
                paper = with_multipliers(sided, paper, sums[:-1])
            if word == "showing" and upper and sided and any(row[1] == last for row in paper[1]):
                continue
            kept.append((sided, word, degree, paper))
        self.papers = kept
        if upper:
            self.system = System(old.field(), old.places(), old.noughts(), old.uppers()[:-1])
        else:
            self.system = System(old.field(), old.places(), old.noughts()[:-1], old.uppers())


class Looking(unittest.TestCase):
    def asked(self, bench, double, degree, sided):
        """Asks, and looks at what is told and kept."""
        serving = double.serving(degree, sided)
        found = bench.ask(degree, sided)
        self.assertIs(type(found), tuple)
        word, paper, kept = found
        self.assertIs(kept, bool(serving))
        self.assertEqual(word, (told_sided if sided else told)(double.system, degree)[0])
        self.assertIs(lets(double.system, degree, sided, word, paper), True)
        if kept:
            self.assertIn((word, paper), serving)
        else:
            double.papers.append((sided, word, degree, copy.deepcopy(paper)))
        self.same(bench, double)
        return word, kept

    def same(self, bench, double):
        self.assertEqual(bench.kept(), len(double.papers))
        self.assertEqual(bench.system(), double.system)


class Asking(Looking):
    def test_in_any_order(self):
        chance = seeded(280)
        for field in SOME_FIELDS:
            for turn in range(12):
                system = some_system(field, chance, most_noughts=4, uppers=2)
                bench, double = Bench(system), Double(system)
                degrees = [sorted, lambda one: sorted(one, reverse=True), list][turn % 3](
                    [chance.randint(0, 6) for _ in range(8)])
                for degree in degrees:
                    sided = field.prime() == 0 and chance.random() < 0.5
                    self.asked(bench, double, degree, sided)

    def test_plainly(self):
        # Of this system degree 2 has a showing, degree 1 has none.
        system = System(FRACTIONS, 2, [linear(FRACTIONS, [0, 1], 1), Sum(FRACTIONS, [((0,), ONE), ((1,), MINUS)])])
        bench = Bench(system)
        self.assertEqual(bench.kept(), 0)
        for degree, word, kept, many in ((1, "worths", False, 1), (1, "worths", True, 1), (0, "worths", True, 1),
                                         (3, "showing", False, 2), (4, "showing", True, 2), (300, "showing", True, 2),
                                         (2, "showing", False, 3), (2, "showing", True, 3), (3, "showing", True, 3)):
            found = bench.ask(degree)
            self.assertEqual((found[0], found[2], bench.kept()), (word, kept, many))
        # The sided kind is kept on its own.
        for degree, word, kept, many in ((1, "worths", False, 4), (2, "showing", False, 5), (0, "worths", True, 5),
                                         (2, "showing", True, 5)):
            found = bench.ask(degree, True)
            self.assertEqual((found[0], found[2], bench.kept()), (word, kept, many))

    def test_worths_are_told_cut(self):
        bench = Bench(System(SEVEN, 3, []))
        whole = bench.ask(3)[1]
        for degree in (0, 1, 2):
            self.assertEqual(bench.ask(degree), ("worths", cut(whole, degree), True))
        self.assertEqual(bench.kept(), 1)
        # What is cut is not kept: the degree that was kept serves again.
        self.assertEqual(bench.ask(3), ("worths", whole, True))

    def test_rising_worths_are_all_kept(self):
        bench = Bench(System(SEVEN, 3, []))
        for degree in range(4):
            self.assertIs(bench.ask(degree)[2], False)
            self.assertEqual(bench.kept(), degree + 1)

    def test_refusals(self):
        bench = Bench(System(FRACTIONS, 60, []))
        for degree in NO_DEGREES:
            for sided in (False, True):
                with self.subTest(degree=repr(degree)), self.assertRaises(NoDegree):
                    bench.ask(degree, sided)
        for sided in (False, True):
            with self.assertRaises(TooMany):
                bench.ask(3, sided)
        bench = Bench(System(SEVEN, 60, []))
        for degree in NO_DEGREES + [0, 1, 300]:
            with self.subTest(degree=repr(degree)), self.assertRaises(NoField):
                bench.ask(degree, True)
        self.assertEqual(bench.kept(), 0)
        self.assertEqual(bench.ask(0)[0], "worths")

    def test_no_degree_where_papers_are_kept(self):
        bench = Bench(guests(FRACTIONS, 2, 1))
        for sided in (False, True):
            bench.ask(0, sided)
            bench.ask(1, sided)
            for degree in NO_DEGREES:
                with self.subTest(degree=repr(degree)), self.assertRaises(NoDegree):
                    bench.ask(degree, sided)
        self.assertEqual(bench.kept(), 4)

    def test_a_kept_one_is_told_where_too_many_is_due(self):
        bench = Bench(guests(SEVEN, 6, 5))
        word, showing, kept = bench.ask(1)
        self.assertEqual((word, kept), ("showing", False))
        for degree in (3, 30, 300):
            with self.assertRaises(TooMany):
                told(bench.system(), degree)
            self.assertEqual(bench.ask(degree), ("showing", showing, True))
        # With 199 wishes more there are too many pairs at degree 3, but worths of that degree are kept.
        bench = Bench(System(SEVEN, 9, [place(0, SEVEN)]))
        worths = bench.ask(3)[1]
        for _ in range(199):
            bench.put(place(0, SEVEN))
        for degree in (3, 2):
            if degree == 3:
                with self.assertRaises(TooMany):
                    told(bench.system(), degree)
            self.assertEqual(bench.ask(degree), ("worths", cut(worths, degree), True))
        with self.assertRaises(TooMany):
            bench.ask(4)
        # And so of the sided kind.
        bench = Bench(System(FRACTIONS, 40, [], [constant(FRACTIONS, -1)]))
        with self.assertRaises(TooMany):
            bench.ask(2, True)
        self.assertEqual(bench.ask(1, True)[::2], ("showing", False))
        self.assertEqual(bench.ask(2, True)[::2], ("showing", True))

    def test_told_papers_changed_change_nothing(self):
        for system, sided in ((guests(FRACTIONS, 3, 2), False), (guests(FRACTIONS, 3, 2), True), (System(FRACTIONS, 2, []), False),
                              (System(FRACTIONS, 2, []), True), (System(FRACTIONS, 2, [], [constant(FRACTIONS, -1)]), True)):
            bench = Bench(system)
            first = bench.ask(1, sided)
            wanted = copy.deepcopy(first[1])
            for again in range(3):
                for one in first[1] if type(first[1]) is tuple else [first[1]]:
                    one.clear()
                first = bench.ask(1, sided)
                self.assertEqual(first, (first[0], wanted, True))

    def test_by_name_in_any_order(self):
        bench = Bench(system=System(FRACTIONS, 1, []))
        self.assertEqual(bench.ask(sided=True, degree=0), ("worths", {(): ONE}, False))
        self.assertEqual(bench.ask(degree=0), ("worths", {(): ONE}, False))
        self.assertEqual(bench.ask(degree=0, sided=False), ("worths", {(): ONE}, True))
        bench.put(upper=True, wish=place(0))
        bench.put(wish=place(0))
        self.assertEqual(bench.system(), System(FRACTIONS, 1, [place(0)], [place(0)]))


class Wishes(Looking):
    def test_put_and_taken_back(self):
        chance = seeded(281)
        stayed = gone = 0
        for field in SOME_FIELDS:
            for _ in range(14):
                system = some_system(field, chance, most_places=3, most_noughts=2, uppers=1)
                bench, double = Bench(system), Double(system)
                for _ in range(25):
                    deed = chance.random()
                    if deed < 0.55:
                        self.asked(bench, double, chance.randint(0, 5), field.prime() == 0 and chance.random() < 0.5)
                    elif deed < 0.8:
                        wish = some_sum(field, system.places(), chance.randint(0, 3), chance)
                        upper = field.prime() == 0 and chance.random() < 0.5
                        before = len(double.papers)
                        double.put(wish, upper)
                        self.assertIsNone(bench.put(wish, upper))
                        stayed, gone = stayed + len(double.papers), gone + before - len(double.papers)
                    elif double.put_in:
                        before = len(double.papers)
                        double.back()
                        self.assertIsNone(bench.back())
                        stayed, gone = stayed + len(double.papers), gone + before - len(double.papers)
                    else:
                        with self.assertRaises(NoWish):
                            bench.back()
                    self.same(bench, double)
        self.assertGreater(stayed, 100)
        self.assertGreater(gone, 100)

    def test_behind_a_wish_put_in_showings_stay(self):
        for field in SOME_FIELDS:
            bench = Bench(guests(field, 3, 2))
            showing = bench.ask(1)[1]
            bench.put(place(0, field))
            self.assertEqual(bench.ask(1), ("showing", showing + [Sum(field)], True))
            bench.put(Sum(field))
            self.assertEqual(bench.ask(2), ("showing", showing + [Sum(field)] * 2, True))
            self.assertEqual(bench.kept(), 1)
            bench.back()
            bench.back()
            self.assertEqual(bench.ask(1), ("showing", showing, True))

    def test_behind_one_taken_back_worths_stay(self):
        for field in SOME_FIELDS:
            bench = Bench(System(field, 2, []))
            bench.put(linear(field, [0, 1], 1))
            word, worths, kept = bench.ask(2)
            self.assertEqual((word, kept), ("worths", False))
            bench.back()
            self.assertEqual(bench.ask(2), ("worths", worths, True))
            self.assertEqual(bench.system(), System(field, 2, []))

    def test_worths_that_are_none_any_more(self):
        bench = Bench(System(SEVEN, 2, []))
        worths = bench.ask(1)[1]
        self.assertEqual(bench.kept(), 1)
        wrong = 1 if worths[(0,)] == (0, 1) else 0
        bench.put(linear(SEVEN, [0], wrong))
        self.assertEqual(bench.kept(), 0)
        self.assertEqual(bench.ask(1)[::2], ("worths", False))
        bench.put(linear(SEVEN, [0], wrong))
        self.assertEqual((bench.kept(), bench.ask(1)[::2]), (1, ("worths", True)))

    def test_showings_that_need_what_is_taken_back(self):
        bench = Bench(System(SEVEN, 1, [place(0, SEVEN)]))
        bench.put(linear(SEVEN, [0], 1))
        self.assertEqual(bench.ask(1)[::2], ("showing", False))
        bench.put(place(0, SEVEN))
        self.assertEqual(bench.kept(), 1)
        bench.back()
        self.assertEqual((bench.kept(), bench.ask(1)[::2]), (1, ("showing", True)))
        bench.back()
        self.assertEqual((bench.kept(), bench.ask(1)[::2]), (0, ("worths", False)))

    def test_uppers(self):
        bench = Bench(System(FRACTIONS, 2, [linear(FRACTIONS, [0, 1], 1)]))
        plain, sided = bench.ask(1), bench.ask(1, True)
        self.assertEqual((plain[0], sided[0], bench.kept()), ("worths", "worths", 2))
        # No worths of the sided kind are let by any more, but those of the plain kind are.
        bench.put(linear(FRACTIONS, [0, 1], 2), True)
        self.assertEqual(bench.kept(), 1)
        self.assertEqual(bench.ask(1), ("worths", plain[1], True))
        self.assertEqual(bench.ask(1, True)[::2], ("showing", False))
        # An upper and a nought more: the sided showing stays, with a sum of nought more.
        bench.put(place(0), True)
        bench.put(Sum(FRACTIONS))
        word, paper, kept = bench.ask(1, True)
        self.assertEqual((word, kept, len(paper[0]), paper[0][-1]), ("showing", True, 2, Sum(FRACTIONS)))
        self.assertIs(lets_sided(bench.system(), 1, paper), True)
        bench.back()
        bench.back()
        self.assertEqual(bench.kept(), 2)
        # The upper that the showing has rows of is taken back.
        bench.back()
        self.assertEqual(bench.kept(), 1)
        self.assertEqual(bench.ask(1, True)[::2], ("worths", False))

    def test_the_first_wishes_are_never_taken_back(self):
        system = System(FRACTIONS, 1, [place(0)], [place(0)])
        bench = Bench(system)
        for _ in range(2):
            with self.assertRaises(NoWish):
                bench.back()
        bench.put(Sum(FRACTIONS))
        bench.put(Sum(FRACTIONS), True)
        bench.put(constant(FRACTIONS, 1))
        for left in (4, 3, 2):
            bench.back()
            self.assertEqual(len(bench.system()), left)
        with self.assertRaises(NoWish):
            bench.back()
        self.assertEqual(bench.system(), system)

    def test_the_last_put_in_of_either_kind(self):
        bench = Bench(System(FRACTIONS, 1, []))
        one, other, third = place(0), constant(FRACTIONS, 1), constant(FRACTIONS, 2)
        bench.put(one, True)
        bench.put(other)
        bench.put(third, True)
        self.assertEqual(bench.system(), System(FRACTIONS, 1, [other], [one, third]))
        bench.back()
        self.assertEqual(bench.system(), System(FRACTIONS, 1, [other], [one]))
        bench.back()
        self.assertEqual(bench.system(), System(FRACTIONS, 1, [], [one]))

    def refused(self, bench, wish, upper, part, number):
        before, kept = bench.system(), bench.kept()
        with self.assertRaises(NoSystem) as caught:
            bench.put(wish, upper)
        self.assertEqual((caught.exception.part, caught.exception.number), (part, number))
        self.assertEqual((bench.system(), bench.kept()), (before, kept))

    def test_no_wish(self):
        bench = Bench(System(FRACTIONS, 2, [place(0)], [place(0), place(1)]))
        bench.ask(1)
        for wish in odd_things() + [0, place(2), place(0, SEVEN), place(59), [place(0)]]:
            with self.subTest(wish=repr(wish)):
                self.refused(bench, wish, False, "noughts", 1)
                self.refused(bench, wish, True, "uppers", 2)
        bench.put(place(1))
        self.refused(bench, None, False, "noughts", 2)
        self.refused(bench, Stubborn(), True, "uppers", 2)
        bench.back()
        with self.assertRaises(NoWish):
            bench.back()

    def test_over_a_prime(self):
        bench = Bench(System(SEVEN, 2, []))
        for wish in odd_things() + [place(0, SEVEN), Sum(SEVEN), place(0)]:
            self.refused(bench, wish, True, "uppers", None)
        self.refused(bench, place(0), False, "noughts", 0)
        with self.assertRaises(NoWish):
            bench.back()

    def test_the_two_hundred_and_first(self):
        bench = Bench(System(FRACTIONS, 1, [place(0)] * 199, [place(0)] * 200))
        self.refused(bench, place(0), True, "uppers", None)
        self.refused(bench, None, True, "uppers", None)
        bench.put(place(0))
        for wish in (place(0), None, place(1), Stubborn()):
            self.refused(bench, wish, False, "noughts", None)
        bench.back()
        bench.put(place(0))
        self.assertEqual(len(bench.system()), 400)


class Twins(Looking):
    def test_apart(self):
        chance = seeded(282)
        for _ in range(20):
            system = some_system(FRACTIONS, chance, most_places=3, most_noughts=2, uppers=1)
            bench, double = Bench(system), Double(system)
            pairs = [(bench, double)]
            for _ in range(30):
                bench, double = chance.choice(pairs)
                deed = chance.random()
                if deed < 0.15 and len(pairs) < 4:
                    other = bench.twin()
                    self.assertIs(type(other), Bench)
                    known = Double(double.system)
                    known.put_in, known.papers = list(double.put_in), list(double.papers)
                    pairs.append((other, known))
                elif deed < 0.5:
                    self.asked(bench, double, chance.randint(0, 4), chance.random() < 0.5)
                elif deed < 0.75 or not double.put_in:
                    wish, upper = some_sum(FRACTIONS, system.places(), 2, chance), chance.random() < 0.5
                    bench.put(wish, upper)
                    double.put(wish, upper)
                else:
                    bench.back()
                    double.back()
                for one, known in pairs:
                    self.same(one, known)

    def test_with_as_many_papers_and_wishes(self):
        bench = Bench(guests(FRACTIONS, 3, 2))
        bench.put(place(0))
        bench.ask(1)
        bench.ask(1, True)
        twin = bench.twin()
        self.assertEqual((twin.kept(), twin.system()), (2, bench.system()))
        twin.back()
        self.assertEqual((len(twin.system()), len(bench.system())), (5, 6))
        with self.assertRaises(NoWish):
            twin.back()
        bench.back()
        with self.assertRaises(NoWish):
            bench.back()
        self.assertEqual(twin.ask(1), bench.ask(1))

    def test_papers_told_by_one(self):
        bench = Bench(guests(FRACTIONS, 3, 2))
        wanted = list(bench.ask(1)[1])
        twin = bench.twin()
        twin.ask(1)[1].clear()
        self.assertEqual(bench.ask(1), ("showing", wanted, True))
        self.assertEqual(twin.ask(1), ("showing", wanted, True))
        self.assertEqual(twin.ask(0)[2], False)
        self.assertEqual((twin.kept(), bench.kept()), (2, 1))


if __name__ == "__main__":
    unittest.main()
