"""Sums as texts (point 10)."""

import re
import unittest
from fractions import Fraction

from falsesums.errors import NoText
from falsesums.fields import Field
from falsesums.sums import Sum
from falsesums.texts import read_sum, shown_sum
from tests.helper import (FRACTIONS, SOME_FIELDS, Stubborn, all_rows, but, number_of, seeded, some_sum, sum_of,
                          worth_by_hand)

ONE = (1, 1)
SEVEN = Field(7)
NAMES = ["a", "b", "c"]


def read(text, field=FRACTIONS, names=NAMES):
    return read_sum(field, list(names), text)


def some_factor(chance, depth):
    kind = chance.randrange(4 if depth else 3)
    if kind == 0:
        return str(chance.randint(0, 12))
    if kind == 1:
        return f"{chance.randint(0, 12)}/{chance.choice([1, 4, 8, 16])}" if chance.random() < 0.5 else "1"
    if kind == 2:
        return chance.choice(NAMES)
    return f"({some_expression(chance, depth - 1)})"


def some_expression(chance, depth):
    """An expression whose bottoms are nought in no field but that of prime 2."""
    text = chance.choice(["", "", "-"])
    for at in range(chance.randint(1, 3)):
        text += chance.choice([" + ", " - "]) if at else ""
        text += "*".join(some_factor(chance, depth) for _ in range(chance.randint(1, 3)))
    return text


def worth_of_text(text, row):
    """What Python itself makes of an expression, with Fractions."""
    return eval(re.sub(r"([0-9]+)", r"Fraction(\1)", text), {"Fraction": Fraction, **dict(zip(NAMES, row))})


class Refusing(unittest.TestCase):
    def refused(self, text, field=FRACTIONS, names=NAMES):
        with self.assertRaises(NoText) as caught:
            read_sum(field, names, text)
        self.assertEqual(caught.exception.row, 0)


class Reading(Refusing):
    def test_plainly(self):
        for text, terms in [("0", {}), ("a", {(0,): 1}), ("-a", {(0,): -1}), ("-0", {}), ("12", {(): 12}),
                            ("a + b", {(0,): 1, (1,): 1}), ("a - b", {(0,): 1, (1,): -1}),
                            ("-a - b", {(0,): -1, (1,): -1}), ("-a + b", {(0,): -1, (1,): 1}),
                            ("a - a", {}), ("a*a", {(0,): 1}), ("b*a", {(0, 1): 1}), ("2*a*3", {(0,): 6}),
                            ("a*2", {(0,): 2}), ("1/2", {(): Fraction(1, 2)}), ("2/4*c", {(2,): Fraction(1, 2)}),
                            ("0/3", {}), ("0*a", {}), ("-1/2*a", {(0,): Fraction(-1, 2)}), ("7/1", {(): 7}),
                            ("(a)", {(0,): 1}), ("(a + b)*(a - b)", {(0,): 1, (1,): -1}),
                            ("-(a + 1)", {(): -1, (0,): -1}), ("(-a + 1)*b", {(1,): 1, (0, 1): -1}),
                            ("1 - (-a)", {(): 1, (0,): 1}), ("1 - (a - b)", {(): 1, (0,): -1, (1,): 1}),
                            ("2*(a + b)*c", {(0, 2): 2, (1, 2): 2}), ("a + 1 + a", {(): 1, (0,): 2}),
                            ("-2*3", {(): -6}), ("1 - 2*3", {(): -5}), ("(1)*(2)", {(): 2})]:
            with self.subTest(text=text):
                self.assertEqual(read(text), sum_of(FRACTIONS, terms))

    def test_over_a_prime(self):
        for text, terms in [("8", {(): 1}), ("7*a", {}), ("-a", {(0,): 6}), ("1/3", {(): 5}),
                            ("a - 10*b", {(0,): 1, (1,): 4}), ("-1/2*a", {(0,): 3}), ("1/8", {(): 1}), ("7/2", {})]:
            with self.subTest(text=text):
                self.assertEqual(read(text, SEVEN), sum_of(SEVEN, terms))

    def test_as_python_reckons(self):
        chance = seeded(20)
        for _ in range(150):
            text = some_expression(chance, 3)
            for field in (FRACTIONS, Field(3), SEVEN, Field(97)):
                one = read(text, field)
                for row in all_rows(3):
                    self.assertEqual(worth_by_hand(one, row), number_of(field, worth_of_text(text, row)), text)

    def test_by_name_in_any_order(self):
        self.assertEqual(read_sum(text="b", names=NAMES, field=SEVEN), Sum(SEVEN, [((1,), ONE)]))

    def test_the_names_stay(self):
        names = ["x", "y"]
        one = read_sum(FRACTIONS, names, "x*y")
        self.assertEqual(names, ["x", "y"])
        names[0] = "z"
        self.assertEqual(one.terms(), [((0, 1), ONE)])


class Names(Refusing):
    def test_names_of_one_to_eight_letters(self):
        names = ["a", "abcdefgh", "zzzzzzzz", "z"]
        for at, name in enumerate(names):
            self.assertEqual(read(name, names=names).terms(), [((at,), ONE)])

    def test_names_that_begin_others(self):
        names = ["a", "ab", "abc", "b", "bc"]
        for at, name in enumerate(names):
            self.assertEqual(read(name, names=names).terms(), [((at,), ONE)])
            self.assertEqual(read(name, names=names[::-1]).terms(), [((4 - at,), ONE)])
        for text in ("aab", "abb", "abcd", "ba", "c"):
            self.refused(text, names=names)

    def test_unknown_names(self):
        for text in ("d", "aa", "a + d", "a*d", "x0", "x1", "A", "abcdefghi", "(d)", "0*d", "a_", "a1", "1a"):
            with self.subTest(text=text):
                self.refused(text)

    def test_sixty_names(self):
        names = [one + other for one in "abcdefghij" for other in "uvwxyz"]
        self.assertEqual(read(names[59], names=names).terms(), [((59,), ONE)])
        self.assertEqual(read("*".join(names), names=names).terms(), [(tuple(range(60)), ONE)])

    def test_names_that_are_none(self):
        for names in [[], ["a"] * 2, ["abcdefghi"], [""], ["A"], ["a1"], ["a "], [None], ("a",), "a", None, [["a"]],
                      ["a" * (at // 26 + 1) + "abcdefghijklmnopqrstuvwxyz"[at % 26] for at in range(61)]]:
            with self.subTest(names=names):
                self.refused("1", names=names)


class Amiss(Refusing):
    def test_blanks_and_signs(self):
        for text in ["", " ", " a", "a ", "a+b", "a +b", "a+ b", "a  + b", "a +  b", "a\t+ b", "a + b\n", "\na", "a\n+ b",
                     "a b", "a -b", "a- b", "a-b", "- a", "+a", "+ a", "--a", "a - -b", "a + -b", "a + + b", "a + ", "a - ",
                     " + a", " - a", "a +", "a -", "-", "a* b", "a *b", "a * b", "a*", "*a", "a**b", "a*-b", "2*-3",
                     "(", ")", "()", "(a", "a)", "((a)", "(a))", "( a)", "(a )", "(- a)", "(a)(b)", "a(b)", "(a)b", "2(a)",
                     "2a", "a2", "2 a", "a/2", "(a)/2", "1/a", "1/(2)", "(1)/2", "1/2/3", "1/", "/2", "1 /2", "1/ 2", "1/-2",
                     "1.5", "1,5", "1e5", "a^2", "a = 0", "a >= 0", "a;b", "[a]", "{a}", "a'", '"a"', "~a", "a_b", "x0",
                     "-(a", "(-)", "(+a)", "a + ()", "1_0", "a*(b", "a + (b - c"]:
            with self.subTest(text=text):
                self.refused(text)

    def test_figures(self):
        for text in ["00", "01", "-01", "007", "1/02", "01/2", "1/00", "0/0", "1/0", "a*1/0", "(1/0)*0", "0*1/0"]:
            with self.subTest(text=text):
                self.refused(text)
                self.refused(text, SEVEN)

    def test_thirty_figures(self):
        most, more = "9" * 30, "1" + "0" * 30
        self.assertEqual(read(most).terms(), [((), (10 ** 30 - 1, 1))])
        self.assertEqual(read(f"1/{most}").terms(), [((), (1, 10 ** 30 - 1))])
        self.assertEqual(read(f"{most}/{most}").terms(), [((), ONE)])
        self.assertEqual(read(f"-{most}*a").terms(), [((0,), (1 - 10 ** 30, 1))])
        for text in (more, f"{more}/1", f"1/{more}", f"a*{more}", f"({more})", "1" * 31, f"0*{more}"):
            self.refused(text)
            self.refused(text, SEVEN)

    def test_other_figures_and_letters(self):
        for text in ("\u0661", "\u00b2", "\uff11", "1\u0661", "\u00e4", "\u0430", "a\u00a0+ b"):
            self.refused(text)

    def test_a_bottom_that_is_nought_in_the_field(self):
        for text in ("1/7", "a*3/14", "0/7", "7/7", "(1 + 1/49)*0", f"1/{7 * 10 ** 28}"):
            self.refused(text, SEVEN)
            self.assertEqual(read(text).field(), FRACTIONS)
            self.assertEqual(read(text, Field(11)).field(), Field(11))
        self.refused("1/2", Field(2))
        self.assertEqual(read("1/3", Field(2)), read("1", Field(2)))

    def test_brackets_within_one_another(self):
        for field in (FRACTIONS, SEVEN):
            self.assertEqual(read("(" * 8 + "a" + ")" * 8, field), read("a", field))
            self.refused("(" * 9 + "a" + ")" * 9, field)
            self.assertEqual(read("(1 - " * 8 + "a" + ")" * 8, field), read("a", field))
            self.refused("(1 - " * 9 + "a" + ")" * 9, field)
            side_by_side = "*".join(["(a)"] * 20) + " + " + " + ".join(["(((b)))"] * 20)
            self.assertEqual(read(side_by_side, field), read("a + 20*b", field))
            self.assertEqual(read("(" * 7 + "(a) + (b)" + ")" * 7, field), read("a + b", field))
        self.refused("(" * 1000)
        self.refused("(" * 1900 + "a" + ")" * 1900)

    def test_other_things(self):
        for field in (FRACTIONS, SEVEN):
            for thing in but(str) + [0, 1, ["a"], ("a",), b"a", Stubborn(), Sum(FRACTIONS)]:
                with self.subTest(thing=repr(thing)):
                    self.refused(thing, field)

    def test_refused_texts_may_be_asked_again(self):
        names = ["a"]
        for _ in range(2):
            self.refused("a + b", names=names)
            self.assertEqual(read("a", names=names).terms(), [((0,), ONE)])


class Size(Refusing):
    def test_parts(self):
        self.assertEqual(read(" + ".join(["a"] * 999)), read("999*a"))
        self.assertEqual(read("+".join(["a"] * 2000).replace("+", " + ")), read("2000*a"))
        self.refused(" + ".join(["a"] * 2001))
        self.refused(" + ".join(["1"] * 2001))
        self.refused(" - ".join(["0"] * 2001))

    def test_factors(self):
        self.assertEqual(read("*".join(["a"] * 1999)), read("a"))
        ten, two = "(" + " + ".join(["a"] * 10) + ")", "(a + b)"
        self.assertEqual(read(f"{ten}*{ten}*{ten}*{two}"), read("1000*a + 1000*a*b"))
        self.assertEqual(read(f"{ten}*{ten}*{ten} + {ten}*{ten}*{ten}"), read("2000*a"))
        self.refused(f"{ten}*{ten}*{ten}*{two} + 1")
        self.refused(f"{ten}*{ten}*{ten} + {ten}*{ten}*{ten} - 0")
        self.refused(f"({ten}*{ten}*{ten}*{two}) - (1)")
        self.refused(f"1 + {ten}*{ten}*{ten} + {ten}*{ten}*{ten}")
        self.refused(f"{ten}*{ten}*{ten}*(1 + 1 + 1)")
        self.refused("*".join([two] * 11))
        self.refused("*".join([two] * 11 + ["0"]))
        self.refused("*".join(["0"] + [two] * 11))
        self.assertEqual(read("*".join([two] * 10 + ["0"])), Sum(FRACTIONS))

    def test_2000_and_2001_within_brackets(self):
        fine = "(" + " + ".join(["1"] * 40) + ")*(" + " + ".join(["1"] * 50) + ")"
        self.assertEqual(read(fine), read("2000"))
        self.assertEqual(read(f"({fine})*1*(1)*a"), read("2000*a"))
        self.refused(f"{fine} + 1")
        self.refused("(" + " + ".join(["1"] * 23) + ")*(" + " + ".join(["1"] * 87) + ")")
        self.assertEqual(read("(" + " + ".join(["1"] * 23) + ")*(" + " + ".join(["1"] * 86) + ")"), read("1978"))

    def test_many_brackets_are_refused_at_once(self):
        self.refused("*".join(["(1 + a)"] * 400))
        self.refused("*".join(["((a + b)*(b + c)*(1 - a))"] * 100))

    def test_many_short_factors_beside_long_ones(self):
        names = list("abcdefghijkl")
        long_one = "*".join(f"(1 - {name})" for name in names[:10])
        text = long_one + "*1" * 1500
        self.assertEqual(read(text, names=names), read(long_one, names=names))
        self.assertEqual(len(read(text, names=names)), 1024)


class Writing(unittest.TestCase):
    def test_as_sums_are_written_with_the_names(self):
        names = ["one", "two", "abcdefgh", "z"]
        for terms, text in [({}, "0"), ({(): 1}, "1"), ({(): -1}, "-1"), ({(0,): 1}, "one"), ({(0,): -1}, "-one"),
                            ({(): 1, (0,): -2, (0, 2): Fraction(1, 3)}, "1 - 2*one + 1/3*one*abcdefgh"),
                            ({(3,): Fraction(-5, 2), (1, 3): 1}, "-5/2*z + two*z")]:
            with self.subTest(text=text):
                self.assertEqual(shown_sum(names, sum_of(FRACTIONS, terms)), text)
        self.assertEqual(shown_sum(names, sum_of(SEVEN, {(): 6, (1,): -1})), "6 + 6*two")

    def test_by_names_like_those_of_str(self):
        chance = seeded(21)
        names = [f"p{at}" for at in range(60)]
        for field in SOME_FIELDS:
            for _ in range(10):
                one = some_sum(field, 60, 6, chance)
                self.assertEqual(shown_sum(names, one), str(one).replace("x", "p"))

    def test_written_and_read_to_the_same(self):
        chance = seeded(22)
        names = ["a", "ab", "b", "ba", "zzzzzzzz", "x"]
        for field in SOME_FIELDS:
            for _ in range(30):
                one = some_sum(field, 6, chance.randint(0, 8), chance)
                self.assertEqual(read_sum(field, names, shown_sum(names, one)), one)

    def test_large_numbers_written_and_read(self):
        one = sum_of(FRACTIONS, {(): Fraction(10 ** 30 - 1, 10 ** 29), (0,): Fraction(-1, 10 ** 30 - 1)})
        self.assertEqual(read_sum(FRACTIONS, NAMES, shown_sum(NAMES, one)), one)

    def test_what_is_handed_in_stays(self):
        names, one = ["a", "b"], Sum(SEVEN, [((1,), ONE)])
        self.assertEqual(shown_sum(one=one, names=names), "b")
        self.assertEqual((names, one), (["a", "b"], Sum(SEVEN, [((1,), ONE)])))


if __name__ == "__main__":
    unittest.main()
