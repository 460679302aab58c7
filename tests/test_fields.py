"""Fields and their numbers (point 4)."""

import unittest
from fractions import Fraction

from falsesums.errors import NoField, NoNumber
from falsesums.fields import Field
from tests.helper import PRIMES, SOME_FIELDS, Stubborn, but, number_of, odd_things, seeded

LARGE = int("123456789" * 6 + "987643")


class Making(unittest.TestCase):
    def test_nought_and_nothing_make_the_fractions(self):
        self.assertEqual(Field().prime(), 0)
        self.assertEqual(Field(0).prime(), 0)

    def test_just_the_primes_up_to_97_make_fields(self):
        for number in range(-100, 300):
            with self.subTest(number=number):
                if number in PRIMES or number == 0:
                    self.assertEqual(Field(number).prime(), number)
                    self.assertEqual(Field(prime=number).prime(), number)
                else:
                    with self.assertRaises(NoField):
                        Field(number)

    def test_large_numbers_make_none(self):
        for number in (LARGE, -LARGE, 2 ** 127 - 1):
            with self.assertRaises(NoField):
                Field(number)

    def test_other_things_make_none(self):
        for thing in odd_things():
            with self.subTest(thing=repr(thing)), self.assertRaises(NoField):
                Field(thing)

    def test_equal_where_the_primes_are(self):
        for one in [0] + PRIMES:
            for other in [0] + PRIMES:
                self.assertEqual(Field(one) == Field(other), one == other)
                self.assertEqual(Field(one) != Field(other), one != other)

    def test_never_equal_to_anything_else(self):
        for thing in but(Stubborn) + [0, 7, "Field(7)", (7,), [7]]:
            for prime in (0, 7):
                with self.subTest(thing=repr(thing), prime=prime):
                    self.assertFalse(Field(prime) == thing)
                    self.assertTrue(Field(prime) != thing)
        self.assertFalse(Field(7) == Stubborn())

    def test_written_out(self):
        self.assertEqual(repr(Field(7)), "Field(7)")
        self.assertEqual(repr(Field(97)), "Field(97)")
        self.assertEqual(repr(Field(0)), "Field(0)")
        self.assertEqual(repr(Field()), "Field(0)")


class Numbers(unittest.TestCase):
    def test_made_over_the_fractions(self):
        field = Field()
        for top, bottom, wanted in [(1, 2, (1, 2)), (2, 4, (1, 2)), (-2, 4, (-1, 2)), (2, -4, (-1, 2)),
                                    (-2, -4, (1, 2)), (0, 5, (0, 1)), (0, -5, (0, 1)), (6, 3, (2, 1)),
                                    (7, 1, (7, 1)), (7, -1, (-7, 1)), (-9, 6, (-3, 2))]:
            with self.subTest(top=top, bottom=bottom):
                self.assertEqual(field.made(top, bottom), wanted)

    def test_made_over_primes(self):
        for top, bottom, prime, wanted in [(1, 2, 7, 4), (3, 1, 7, 3), (10, 1, 7, 3), (-1, 1, 7, 6), (1, -1, 7, 6),
                                           (1, 1, 2, 1), (2, 3, 2, 0), (5, 96, 97, 92), (0, 3, 5, 0), (1, 8, 7, 1)]:
            with self.subTest(top=top, bottom=bottom, prime=prime):
                self.assertEqual(Field(prime).made(top, bottom), (wanted, 1))

    def test_made_by_every_bottom(self):
        for prime in PRIMES:
            for bottom in range(-prime - 1, 2 * prime):
                if bottom % prime:
                    top, one = Field(prime).made(5, bottom)
                    self.assertEqual(one, 1)
                    self.assertTrue(0 <= top < prime)
                    self.assertEqual((top * bottom - 5) % prime, 0)

    def test_bottom_left_out(self):
        self.assertEqual(Field().made(-4), (-4, 1))
        self.assertEqual(Field(7).made(-4), (3, 1))
        self.assertEqual(Field(7).made(7), (0, 1))

    def test_by_name_in_any_order(self):
        self.assertEqual(Field().made(bottom=4, top=2), (1, 2))
        self.assertEqual(Field().made(top=2), (2, 1))

    def test_large_numbers(self):
        fraction = Fraction(LARGE * 6, -LARGE * 4 + 2)
        self.assertEqual(Field().made(LARGE * 6, -LARGE * 4 + 2), (fraction.numerator, fraction.denominator))
        self.assertEqual(Field().made(LARGE, LARGE), (1, 1))
        top = Field(97).made(LARGE, LARGE + 1)[0]
        self.assertEqual((top * (LARGE + 1) - LARGE) % 97, 0)

    def test_bottoms_that_are_nought(self):
        for field in SOME_FIELDS:
            for many in (0, 1, -1, 3, LARGE):
                bottom = many * field.prime()
                with self.subTest(field=field, bottom=bottom), self.assertRaises(NoNumber):
                    field.made(1, bottom)
            with self.assertRaises(NoNumber):
                field.made(0, 0)

    def test_things_that_are_no_whole_numbers(self):
        for field in SOME_FIELDS:
            for thing in odd_things():
                with self.subTest(field=field, thing=repr(thing)):
                    with self.assertRaises(NoNumber):
                        field.made(thing)
                    with self.assertRaises(NoNumber):
                        field.made(thing, 1)
                    with self.assertRaises(NoNumber):
                        field.made(1, thing)
                    with self.assertRaises(NoNumber):
                        field.made(thing, thing)

    def test_what_was_refused_may_be_asked_again(self):
        field = Field(5)
        with self.assertRaises(NoNumber):
            field.made(3, 10)
        self.assertEqual(field.made(3, 9), (2, 1))


class IsNumber(unittest.TestCase):
    def test_of_the_fractions(self):
        field = Field()
        for number in [(0, 1), (1, 1), (-1, 1), (3, 7), (-3, 7), (LARGE, 1), (1, LARGE), (-LARGE, LARGE + 1)]:
            with self.subTest(number=number):
                self.assertIs(field.is_number(number), True)
        for number in [(0, 2), (2, 4), (3, 3), (1, 0), (0, 0), (1, -1), (-1, -1), (0, -1), (-6, 4), (LARGE, LARGE)]:
            with self.subTest(number=number):
                self.assertIs(field.is_number(number), False)

    def test_of_primes(self):
        for prime in PRIMES:
            field = Field(prime)
            for top in range(-prime, 2 * prime + 1):
                self.assertIs(field.is_number((top, 1)), 0 <= top < prime)
                for bottom in (-1, 0, 2, prime + 1):
                    self.assertIs(field.is_number((top, bottom)), False)

    def test_of_other_things(self):
        for field in SOME_FIELDS:
            for thing in odd_things() + [0, 1, [1, 1], (1, 1, 1), (True, 1), (1, True), (False, 1), ("1", 1), (1, "1"),
                                         (1, None), (None, 1), ((1, 1), 1), (1, [1]), "11"]:
                with self.subTest(field=field, thing=repr(thing)):
                    self.assertIs(field.is_number(thing), False)

    def test_by_name(self):
        self.assertIs(Field().is_number(thing=(1, 2)), True)


class Reckoning(unittest.TestCase):
    def pairs(self, field):
        if 0 < field.prime() < 10:
            numbers = [(top, 1) for top in range(field.prime())]
        else:
            chance = seeded(4)
            fractions = [Fraction(chance.randint(-30, 30), chance.randint(1, 30)) for _ in range(20)]
            fractions += [Fraction(0), Fraction(1), Fraction(-1), Fraction(LARGE, LARGE - 7), Fraction(-5, LARGE)]
            numbers = [number_of(field, fraction) for fraction in fractions
                       if not field.prime() or fraction.denominator % field.prime()]
        return [(one, other) for one in numbers for other in numbers]

    def test_as_fractions_reckon(self):
        for field in SOME_FIELDS:
            for one, other in self.pairs(field):
                first, second = Fraction(*one), Fraction(*other)
                self.assertEqual(field.plus(one, other), number_of(field, first + second))
                self.assertEqual(field.minus(one, other), number_of(field, first - second))
                self.assertEqual(field.times(one, other), number_of(field, first * second))
                if second:
                    self.assertEqual(field.over(one, other), number_of(field, first / second))
                    self.assertTrue(field.is_number(field.over(one, other)))

    def test_plainly(self):
        field = Field()
        self.assertEqual(field.plus((1, 2), (1, 3)), (5, 6))
        self.assertEqual(field.minus((1, 2), (1, 3)), (1, 6))
        self.assertEqual(field.minus((1, 3), (1, 2)), (-1, 6))
        self.assertEqual(field.times((-2, 3), (3, 4)), (-1, 2))
        self.assertEqual(field.over((1, 2), (-3, 4)), (-2, 3))
        self.assertEqual(field.plus((1, 2), (-1, 2)), (0, 1))
        self.assertEqual(Field(7).over((1, 1), (3, 1)), (5, 1))
        self.assertEqual(Field(7).minus((1, 1), (3, 1)), (5, 1))

    def test_over_by_nought(self):
        for field in SOME_FIELDS:
            for number in ((0, 1), (1, 1)):
                with self.subTest(field=field, number=number), self.assertRaises(NoNumber):
                    field.over(number, (0, 1))

    def test_told_numbers_may_grow(self):
        field, number = Field(), (LARGE, LARGE + 2)
        for _ in range(7):
            number = field.times(number, number)
        self.assertTrue(field.is_number(number))
        self.assertEqual(field.over(number, number), (1, 1))
        self.assertEqual(field.minus(number, number), (0, 1))
        self.assertEqual(field.made(number[0], number[1]), number)

    def test_by_name_in_any_order(self):
        field = Field()
        self.assertEqual(field.plus(other=(1, 2), one=(1, 3)), (5, 6))
        self.assertEqual(field.minus(other=(1, 2), one=(1, 3)), (-1, 6))
        self.assertEqual(field.times(other=(1, 2), one=(1, 3)), (1, 6))
        self.assertEqual(field.over(other=(1, 2), one=(1, 3)), (2, 3))


if __name__ == "__main__":
    unittest.main()
