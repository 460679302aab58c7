"""Texts of every size and their showings (point 27, and 2 and 3)."""

import copy
import unittest

from falsesums.errors import NoField, NoShowing, NoSize
from falsesums.famous import (chain, chain_showing, guests, guests_showing, ring, ring_showing, web, web_showing)
from falsesums.fields import Field
from falsesums.fillings import fillings
from falsesums.papers import lets_showing
from falsesums.sheets import read, shown
from falsesums.sums import Sum
from falsesums.systems import System
from falsesums.telling import told
from tests import helper
from tests.helper import FRACTIONS, PRIMES, SOME_FIELDS, Stubborn, odd_things, seeded

FIELDS = [Field(0)] + [Field(prime) for prime in PRIMES]
TWO = Field(2)
ODD_FIELDS = [field for field in FIELDS if field.prime() != 2]


def sheet(text):
    """The system of a sheet, `; ` for line feeds."""
    return read(text.replace("; ", "\n"))[1]


def halvings(number):
    many = 0
    while number > 1:
        number = -(-number // 2)
        many += 1
    return many


class Guests(unittest.TestCase):
    def test_what_is_wished(self):
        for field in SOME_FIELDS:
            for many in range(1, 8):
                for rooms in range(1, 9):
                    system = guests(field, many, rooms)
                    self.assertEqual(system, helper.guests(field, many, rooms))
                    self.assertEqual((system.places(), len(system), system.uppers()), (many * rooms, many + rooms, []))
        names = "a b c d e f"
        self.assertEqual(guests(Field(7), 2, 3), sheet(f"field 7; places {names}; a + b + c - 1 = 0; d + e + f - 1 = 0; "
                                                       "a + d - 1 = 0; b + e - 1 = 0; c + f - 1 = 0"))
        self.assertEqual(guests(TWO, 1, 1), sheet("field 2; places a; a - 1 = 0; a - 1 = 0"))

    def test_showings(self):
        for field in FIELDS:
            for many in range(1, 8):
                for rooms in range(1, 9):
                    prime = field.prime()
                    if many == rooms or prime and (many - rooms) % prime == 0:
                        with self.assertRaises(NoShowing):
                            guests_showing(field, many, rooms)
                    else:
                        showing = guests_showing(field, many, rooms)
                        self.assertEqual((type(showing), len(showing)), (list, many + rooms))
                        self.assertIs(lets_showing(guests(field, many, rooms), 1, showing), True)

    def test_where_none_of_degree_one_is(self):
        for prime, many, rooms in ((2, 2, 2), (0, 3, 3), (2, 3, 1), (2, 2, 4), (3, 4, 1), (3, 1, 4), (5, 6, 1)):
            self.assertEqual(told(guests(Field(prime), many, rooms), 1)[0], "worths")
            self.assertTrue(fillings(guests(Field(prime), many, rooms)))

    def test_no_field(self):
        for ask in (guests, guests_showing):
            for field in odd_things() + [0, 7, "7"]:
                for many, rooms in ((2, 1), (0, 1), (None, None), (Stubborn(), 9), (2, 2)):
                    with self.subTest(field=repr(field)), self.assertRaises(NoField):
                        ask(field, many, rooms)

    def test_no_size(self):
        for field in (FRACTIONS, TWO):
            for ask in (guests, guests_showing):
                for size in odd_things() + [0, -1, 9, 10 ** 30, 1.0, 3.0]:
                    for many, rooms in ((size, 2), (2, size), (size, size)):
                        with self.subTest(many=repr(many), rooms=repr(rooms)), self.assertRaises(NoSize):
                            ask(field, many, rooms)
                with self.assertRaises(NoSize):
                    ask(field, 8, 1)
                with self.assertRaises(NoSize):
                    ask(field, 8, 8)

    def test_by_name_in_any_order(self):
        self.assertEqual(guests(rooms=2, many=3, field=TWO), guests(TWO, 3, 2))
        self.assertEqual(guests_showing(rooms=2, many=3, field=TWO), guests_showing(TWO, 3, 2))


class Rings(unittest.TestCase):
    def some_signs(self):
        chance = seeded(270)
        for length in list(range(3, 13)) + [30, 59, 60]:
            yield [1] * (length - 1) + [-1]
            yield [-1] + [1] * (length - 1)
            yield [-1] * length if length % 2 else [-1] * (length - 1) + [1]
            signs = [chance.choice([1, -1]) for _ in range(length)]
            signs[0] = -signs[0] if signs.count(-1) % 2 == 0 else signs[0]
            yield signs

    def test_what_is_wished(self):
        for field in (FRACTIONS, Field(3), Field(97)):
            for signs in self.some_signs():
                system = ring(field, signs)
                many = len(signs)
                self.assertEqual((system.field(), system.places(), len(system.noughts()), system.uppers()), (field, many, many, []))
                for at, (nought, sign) in enumerate(zip(system.noughts(), signs)):
                    after = (at + 1) % many
                    wanted = Sum(field, [((), field.made(1 - sign)), ((at,), field.made(-2)), ((after,), field.made(-2)),
                                         (tuple(sorted((at, after))), field.made(4))])
                    self.assertEqual(nought, wanted)
        self.assertEqual(ring(FRACTIONS, [1, 1, -1]),
                         sheet("field 0; places a b c; (1 - 2*a)*(1 - 2*b) - 1 = 0; (1 - 2*b)*(1 - 2*c) - 1 = 0; "
                               "(1 - 2*c)*(1 - 2*a) + 1 = 0"))

    def test_no_filling(self):
        for signs in ([1, 1, -1], [-1, -1, -1], [1, -1, 1, 1, 1]):
            self.assertEqual(fillings(ring(Field(5), signs)), [])

    def test_showings(self):
        for field in ODD_FIELDS:
            for signs in self.some_signs():
                before = list(signs)
                showing = ring_showing(field, signs)
                self.assertEqual(signs, before)
                self.assertEqual((type(showing), len(showing)), (list, len(signs)))
                self.assertIs(lets_showing(ring(field, signs), 4, showing), True)

    def test_no_field(self):
        for ask in (ring, ring_showing):
            for field in odd_things() + [0, 7, TWO]:
                for signs in ([1, 1, -1], [1, 1], None, Stubborn()):
                    with self.subTest(field=repr(field)), self.assertRaises(NoField):
                        ask(field, signs)

    def test_no_size(self):
        wrong = odd_things() + [0, (1, 1, -1), [1, -1], [-1], [1] * 60 + [-1], [1, 1, 1], [1, -1, -1], [-1] * 60, [1, 1, 0],
                                [1, 1, -2], [1, True, -1], [True, True, -1], [1, 1, -1.0], [1, 1, "-1"], [1, 1, None],
                                [1, -1, Stubborn()], {0: 1, 1: 1, 2: -1}, "11-"]
        for ask in (ring, ring_showing):
            for signs in wrong:
                with self.subTest(signs=repr(signs)), self.assertRaises(NoSize):
                    ask(FRACTIONS, signs)

    def test_by_name_in_any_order(self):
        self.assertEqual(ring(signs=[1, 1, -1], field=FRACTIONS), ring(FRACTIONS, [1, 1, -1]))
        self.assertEqual(ring_showing(signs=[1, 1, -1], field=FRACTIONS), ring_showing(FRACTIONS, [1, 1, -1]))


class Webs(unittest.TestCase):
    def some_webs(self):
        chance = seeded(271)
        yield [(0, 1)], [0]
        yield [(5, 2)], [5]
        yield [(0, 1)] * 60, [1]
        yield [(10 ** 50, 0), (0, 3)], [3, 0, 10 ** 50]
        yield [(at, at + 1) for at in range(60)], list(range(0, 61, 4))[:15]
        yield [(2 * at, 2 * at + 1) for at in range(60)], list(range(119))
        for _ in range(40):
            knots = [chance.randint(0, 40) for _ in range(chance.randint(2, 9))]
            if len(set(knots)) > 1:
                edges = [tuple(chance.sample(sorted(set(knots)), 2)) for _ in range(chance.randint(1, 60))]
                standing = sorted({knot for edge in edges for knot in edge})
                chance.shuffle(standing)
                yield edges, standing[:chance.randrange(1, len(standing) + 1, 2)]

    def test_what_is_wished(self):
        for edges, odd in self.some_webs():
            system = web(edges, odd)
            knots = sorted({knot for edge in edges for knot in edge})
            self.assertEqual((system.field(), system.places(), system.uppers()), (TWO, len(edges), []))
            wanted = [Sum(TWO, [((at,), (1, 1)) for at, edge in enumerate(edges) if knot in edge]
                          + [((), (int(knot in odd), 1))]) for knot in knots]
            self.assertEqual(system.noughts(), wanted)
        self.assertEqual(web([(3, 1), (1, 2), (2, 3)], [2]),
                         sheet("field 2; places a b c; a + b = 0; b + c + 1 = 0; a + c = 0"))
        self.assertEqual(web([(0, 1), (1, 0)], [0]), sheet("field 2; places a b; a + b + 1 = 0; a + b = 0"))

    def test_showings(self):
        for edges, odd in self.some_webs():
            before = (list(edges), list(odd))
            showing = web_showing(edges, odd)
            self.assertEqual((edges, odd), before)
            self.assertIs(type(showing), list)
            self.assertIs(lets_showing(web(edges, odd), 1, showing), True)

    def test_no_size(self):
        edges = [(0, 1), (1, 2), (2, 0)]
        wrong = odd_things() + [0, tuple(edges), [(0, 1)] * 61, edges + [(1, 1)], edges + [(1,)], edges + [(1, 2, 3)],
                                edges + [[0, 1]], edges + [(0, -1)], edges + [(-1, 0)], edges + [(0, True)], edges + [(False, 2)],
                                edges + [(0, None)], edges + [None], edges + [Stubborn()], edges + [(0, Stubborn())],
                                edges + [(0, 1.0)], edges + [("0", "1")], {0: 1}, [3]]
        for ask in (web, web_showing):
            for thing in wrong:
                for odd in ([0], None):
                    with self.subTest(edges=repr(thing)), self.assertRaises(NoSize):
                        ask(thing, odd)
            # Odd knots: of even number, twice, in no edge, and all else.
            for odd in odd_things() + [0, [0, 1], [0, 0, 0], [0, 0, 1], [3], [0, 1, 3], (0,), [True], [False], [0, 1, None],
                                       [0.0], ["0"], [Stubborn()], {0: 1}, [-1], [(0,)]]:
                # Of the odd things one is a list of a knot.
                if repr(odd) != "[1]":
                    with self.subTest(odd=repr(odd)), self.assertRaises(NoSize):
                        ask(edges, odd)

    def test_by_name_in_any_order(self):
        self.assertEqual(web(odd=[0], edges=[(0, 1)]), web([(0, 1)], [0]))
        self.assertEqual(web_showing(odd=[0], edges=[(0, 1)]), web_showing([(0, 1)], [0]))


class Chains(unittest.TestCase):
    def test_what_is_wished(self):
        for field in SOME_FIELDS:
            for places in range(2, 61):
                noughts = [Sum(field, [((0,), (1, 1)), ((), field.made(-1))])]
                noughts += [Sum(field, [((at,), (1, 1)), ((at, at + 1), field.made(-1))]) for at in range(places - 1)]
                noughts += [Sum(field, [((places - 1,), (1, 1))])]
                self.assertEqual(chain(field, places), System(field, places, noughts))
        self.assertEqual(chain(FRACTIONS, 3), sheet("field 0; places a b c; a - 1 = 0; a - a*b = 0; b - b*c = 0; c = 0"))

    def test_showings(self):
        for field in FIELDS:
            for places in range(2, 61) if field in SOME_FIELDS else (2, 3, 17, 33, 34, 60):
                showing = chain_showing(field, places)
                self.assertEqual((type(showing), len(showing)), (list, places + 1))
                self.assertIs(lets_showing(chain(field, places), 2 + halvings(places - 1), showing), True)

    def test_halvings(self):
        self.assertEqual([halvings(number) for number in (1, 2, 3, 4, 5, 8, 9, 32, 33, 59)], [0, 1, 2, 2, 3, 3, 4, 5, 6, 6])

    def test_no_field(self):
        for ask in (chain, chain_showing):
            for field in odd_things() + [0, 7]:
                for places in (3, 1, None, Stubborn()):
                    with self.subTest(field=repr(field)), self.assertRaises(NoField):
                        ask(field, places)

    def test_no_size(self):
        for ask in (chain, chain_showing):
            for field in (FRACTIONS, TWO):
                for places in odd_things() + [1, 0, -1, 61, 10 ** 30, 2.0]:
                    with self.subTest(places=repr(places)), self.assertRaises(NoSize):
                        ask(field, places)

    def test_by_name_in_any_order(self):
        self.assertEqual(chain(places=3, field=TWO), chain(TWO, 3))
        self.assertEqual(chain_showing(places=3, field=TWO), chain_showing(TWO, 3))


class Anew(unittest.TestCase):
    def test_showings_are_the_askers_own(self):
        for ask in (lambda: guests_showing(TWO, 3, 2), lambda: ring_showing(FRACTIONS, [1, 1, -1]),
                    lambda: web_showing([(0, 1)], [0]), lambda: chain_showing(TWO, 4)):
            first = ask()
            second = copy.copy(first)
            first.clear()
            self.assertEqual(ask(), second)

    def test_written_and_read(self):
        names = [first + second for first in "abcdefgh" for second in "abcdefgh"]
        for system in (guests(Field(7), 3, 2), ring(FRACTIONS, [1, 1, -1]), web([(0, 1), (1, 2)], [0]), chain(TWO, 5)):
            self.assertEqual(read(shown((names[:system.places()], system)))[1], system)


if __name__ == "__main__":
    unittest.main()
