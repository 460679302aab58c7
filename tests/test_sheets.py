"""Sheets (point 11)."""

import unittest

from falsesums.errors import NoText
from falsesums.fields import Field
from falsesums.sheets import read, shown
from falsesums.sums import Sum
from falsesums.systems import System
from falsesums.texts import read_sum
from tests.helper import FRACTIONS, PRIMES, SOME_FIELDS, Stubborn, but, seeded, some_sum

ONE = (1, 1)
SEVEN = Field(7)
SIXTY = [one + other for one in "abcdefghij" for other in "uvwxyz"]


def sheet_of(field, names, noughts, uppers=()):
    return (names, System(field, len(names), [read_sum(field, names, text) for text in noughts],
                          [read_sum(field, names, text) for text in uppers]))


class Writing(unittest.TestCase):
    def test_as_the_document_writes(self):
        self.assertEqual(shown(sheet_of(FRACTIONS, ["a", "bb"], ["a*bb - 1", "0"], ["1/2 - a", "bb"])),
                         "field 0\nplaces a bb\n-1 + a*bb = 0\n0 = 0\n1/2 - a >= 0\nbb >= 0")
        self.assertEqual(shown(sheet_of(SEVEN, ["x"], ["-x"])), "field 7\nplaces x\n6*x = 0")
        self.assertEqual(shown(sheet_of(SEVEN, ["x"], [])), "field 7\nplaces x")
        self.assertEqual(shown(sheet_of(FRACTIONS, ["x"], [], ["x"])), "field 0\nplaces x\nx >= 0")

    def test_what_is_handed_in_stays(self):
        names = ["a", "b"]
        sheet = (names, System(SEVEN, 2, []))
        self.assertEqual(shown(sheet=sheet), "field 7\nplaces a b")
        self.assertEqual(sheet, (["a", "b"], System(SEVEN, 2, [])))


class Reading(unittest.TestCase):
    def test_plainly(self):
        text = "field 0\nplaces a b\na*(a + b) - 1 = 0\n2/4*b = 0\n-(a - b) >= 0"
        self.assertEqual(read(text), sheet_of(FRACTIONS, ["a", "b"], ["a + a*b - 1", "1/2*b"], ["b - a"]))
        self.assertIsInstance(read(text), tuple)
        self.assertIsInstance(read(text)[0], list)
        self.assertEqual(read(text="field 7\nplaces x"), (["x"], System(SEVEN, 1, [])))

    def test_each_field(self):
        for prime in [0] + PRIMES:
            self.assertEqual(read(f"field {prime}\nplaces a\na = 0"), sheet_of(Field(prime), ["a"], ["a"]))

    def test_one_and_sixty_names(self):
        self.assertEqual(read("field 2\nplaces abcdefgh")[0], ["abcdefgh"])
        names, system = read("field 2\nplaces " + " ".join(SIXTY) + f"\n{SIXTY[59]} = 0")
        self.assertEqual(names, SIXTY)
        self.assertEqual(system, System(Field(2), 60, [Sum(Field(2), [((59,), ONE)])]))

    def test_names_like_the_words_of_rows(self):
        text = "field 0\nplaces field places\nfield = 0\nplaces - field >= 0"
        self.assertEqual(read(text), sheet_of(FRACTIONS, ["field", "places"], ["field"], ["places - field"]))

    def test_uppers_alone(self):
        self.assertEqual(read("field 0\nplaces a\na >= 0"), sheet_of(FRACTIONS, ["a"], [], ["a"]))

    def test_two_hundred_of_each_kind(self):
        text = "field 0\nplaces a" + "\na = 0" * 200 + "\na >= 0" * 200
        self.assertEqual(read(text), sheet_of(FRACTIONS, ["a"], ["a"] * 200, ["a"] * 200))
        self.assertEqual(len(read("field 7\nplaces a" + "\na = 0" * 200)[1]), 200)

    def test_written_and_read_to_the_same(self):
        chance = seeded(30)
        for field in SOME_FIELDS:
            for many in range(8):
                names = SIXTY[:chance.randint(1, 60)]
                noughts = [some_sum(field, len(names), 4, chance) for _ in range(many)]
                uppers = [some_sum(field, len(names), 4, chance) for _ in range(0 if field.prime() else many // 2)]
                sheet = (names, System(field, len(names), noughts, uppers))
                self.assertEqual(read(shown(sheet)), sheet)
                self.assertEqual(shown(read(shown(sheet))), shown(sheet))

    def test_told_names_are_new(self):
        text = "field 7\nplaces a b\na = 0"
        told = read(text)
        told[0].append("c")
        told[1].noughts().clear()
        self.assertEqual(read(text), sheet_of(SEVEN, ["a", "b"], ["a"]))
        self.assertIsNot(read(text)[0], read(text)[0])


class Refusing(unittest.TestCase):
    def row(self, text):
        with self.assertRaises(NoText) as caught:
            read(text)
        return caught.exception.row

    def test_what_is_no_text(self):
        for thing in but(str) + [0, ["field 0", "places a"], b"field 0\nplaces a", Stubborn(), System(SEVEN, 1, [])]:
            with self.subTest(thing=repr(thing)):
                self.assertEqual(self.row(thing), 0)

    def test_the_first_row(self):
        for row in ["", "field", "field ", "field 1", "field 4", "field 91", "field 101", "field 98", "field -7", "field +7",
                    "field 07", "field 00", "field 7 ", " field 7", "field  7", "Field 7", "fields 7", "field 7 7",
                    "field 7;", "field seven", "field 0/1", "field\t7", "places a", "a = 0", "7", "field 7\r", "field 2.0",
                    "field " + "7" * 3000]:
            for rest in ("", "\nplaces a", "\nplaces a\na = 0", "\nwrong\nwrong"):
                with self.subTest(row=row, rest=rest):
                    self.assertEqual(self.row(row + rest), 0)

    def test_the_second_row(self):
        for row in ["", "places", "places ", "places  ", "places A", "places a ", "places  a", "places a  b", " places a",
                    "places a a", "places a b a", "places abcdefghi", "places a1", "places a,b", "places a\tb", "place a",
                    "placesa", "places x0", "field 7", "a = 0", "a", "Places a", "places " + " ".join(SIXTY + ["zz"]),
                    "places " + " ".join(SIXTY[:59] + [SIXTY[0]]), "places a\r", "places -"]:
            for rest in ("", "\na = 0", "\nwrong"):
                with self.subTest(row=row, rest=rest):
                    self.assertEqual(self.row("field 7\n" + row + rest), 1)

    def test_a_text_that_ends_too_early(self):
        self.assertEqual(self.row(""), 0)
        for prime in (0, 7):
            self.assertEqual(self.row(f"field {prime}"), 1)
            self.assertEqual(self.row(f"field {prime}\n"), 1)

    def test_wishes_that_are_none(self):
        for row in ["", " ", "a", "a =", "a = ", "a = 1", "a = 00", "a = 0 ", " a = 0", "a  = 0", "a =  0", "a=0", "a= 0",
                    "a =0", "a == 0", "a > 0", "a >=0", "a>= 0", "a > = 0", "a <= 0", "a < 0", "a => 0", "a >= 1", "a >= 0 ",
                    "0 = a", "= 0", " = 0", ">= 0", " >= 0", "c = 0", "a + c >= 0", "a+b = 0", "a = b", "1/0 = 0",
                    "a = 0 = 0", "a >= 0 = 0", "a = 0 >= 0", "a - b = 0;", "(a = 0", "places a", "field 0", "01 = 0", "-",
                    "a\t= 0", "a = 0\r", "1" * 31 + " = 0", "(" * 9 + "a" + ")" * 9 + " = 0",
                    " + ".join(["a"] * 2001) + " = 0"]:
            for ahead in (0, 1, 3):
                with self.subTest(row=row, ahead=ahead):
                    text = "field 0\nplaces a b" + "\na = 0" * ahead + "\n" + row
                    self.assertEqual(self.row(text), 2 + ahead)
                    self.assertEqual(self.row(text + "\nb = 0\nwrong"), 2 + ahead)

    def test_wishes_behind_uppers_that_are_none(self):
        for row in ["a = 0", "b - 1 = 0", "0 = 0", "", "a", "c >= 0", "a > 0", "a >= 0 "]:
            for ahead in (1, 2):
                with self.subTest(row=row, ahead=ahead):
                    text = "field 0\nplaces a b\na = 0" + "\na >= 0" * ahead + "\n" + row
                    self.assertEqual(self.row(text), 3 + ahead)
                    self.assertEqual(self.row(text + "\nwrong"), 3 + ahead)

    def test_an_upper_over_a_prime(self):
        for prime in PRIMES:
            self.assertEqual(self.row(f"field {prime}\nplaces a\na >= 0"), 2)
            self.assertEqual(self.row(f"field {prime}\nplaces a\na = 0\n0 >= 0\nwrong"), 3)

    def test_a_bottom_that_is_nought_in_the_field(self):
        self.assertEqual(self.row("field 7\nplaces a\na = 0\n1/7*a = 0"), 3)

    def test_more_than_two_hundred(self):
        noughts, uppers = "\na = 0" * 200, "\na >= 0" * 200
        for prime in (0, 7):
            self.assertEqual(self.row(f"field {prime}\nplaces a" + noughts + "\na = 0"), 202)
            self.assertEqual(self.row(f"field {prime}\nplaces a" + noughts + "\na = 0\nwrong"), 202)
        self.assertEqual(self.row("field 0\nplaces a" + noughts + uppers + "\na >= 0"), 402)
        self.assertEqual(self.row("field 0\nplaces a" + uppers + "\na >= 0"), 202)

    def test_rows_left_out_twice_and_exchanged(self):
        self.assertEqual(self.row("places a\na = 0"), 0)
        self.assertEqual(self.row("field 0\na = 0"), 1)
        self.assertEqual(self.row("places a\nfield 0\na = 0"), 0)
        self.assertEqual(self.row("field 0\na = 0\nplaces a"), 1)
        self.assertEqual(self.row("field 0\nfield 0\nplaces a"), 1)
        self.assertEqual(self.row("field 0\nplaces a\nplaces a"), 2)
        self.assertEqual(self.row("field 0\nplaces a\nfield 0"), 2)

    def test_empty_rows(self):
        self.assertEqual(self.row("\n"), 0)
        self.assertEqual(self.row("\nfield 0\nplaces a"), 0)
        self.assertEqual(self.row("field 0\n\nplaces a"), 1)
        self.assertEqual(self.row("field 0\nplaces a\n"), 2)
        self.assertEqual(self.row("field 0\nplaces a\n\n"), 2)
        self.assertEqual(self.row("field 0\nplaces a\n\na = 0"), 2)
        self.assertEqual(self.row("field 0\nplaces a\na = 0\n"), 3)
        self.assertEqual(self.row("field 0\nplaces a\na = 0\na >= 0\n"), 4)

    def test_may_be_asked_again(self):
        for _ in range(2):
            self.assertEqual(self.row("field 0\nplaces a\nb = 0"), 2)
            self.assertEqual(read("field 0\nplaces a\na = 0"), sheet_of(FRACTIONS, ["a"], ["a"]))


if __name__ == "__main__":
    unittest.main()
