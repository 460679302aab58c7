"""The desk (point 29, and 2 and 3)."""

import unittest

from falsesums.desk import Desk
from falsesums.errors import (FalseError, NoDegree, NoField, NoName, NoRow, NoSystem, NoText, NoWish, TooMany)
from falsesums.fillings import fillings
from falsesums.leasts import least
from falsesums.papers import worth_of
from falsesums.sheets import read, shown
from falsesums.sidedtelling import least_sided, told_sided
from falsesums.telling import told
from falsesums.texts import read_sum
from tests.helper import FRACTIONS, SOME_FIELDS, but, seeded, some_system

PAIR = "field 0; places x y; x + y - 1 = 0; x - y = 0"
NAMES = ["a", "b", "c", "d"]


def desk_with(**sheets):
    """A desk that keeps these sheets."""
    desk = Desk()
    for name, text in sheets.items():
        desk.say(f"sheet {name} {text}")
    return desk


class Said(unittest.TestCase):
    def refused(self, desk, said, kind, **fields):
        """Refused, and nothing changed."""
        before = self.state(desk)
        with self.subTest(said=repr(said)), self.assertRaises(kind) as caught:
            desk.say(said)
        if hasattr(caught, "exception"):
            self.assertIs(type(caught.exception), kind)
            for name, value in fields.items():
                self.assertEqual(getattr(caught.exception, name), value)
        self.assertEqual(self.state(desk), before)

    def state(self, desk):
        names = desk.say("names").split(" ") if len(desk) else []
        return (len(desk), [(name, desk.say(f"shown {name}")) for name in names])


class Sheets(Said):
    def test_none_at_first(self):
        desk = Desk()
        self.assertEqual((len(desk), desk.say("names")), (0, "-"))

    def test_kept_shown_and_dropped(self):
        desk = Desk()
        self.assertEqual(desk.say(f"sheet b {PAIR}"), "ok")
        self.assertEqual(desk.say("sheet abcdefgh field 7; places p"), "ok")
        self.assertEqual(desk.say("sheet a field 2; places q r; q*r + 1 = 0"), "ok")
        self.assertEqual((len(desk), desk.say("names")), (3, "a abcdefgh b"))
        self.assertEqual(desk.say("shown b"), "field 0; places x y; -1 + x + y = 0; x - y = 0")
        self.assertEqual(desk.say("shown abcdefgh"), "field 7; places p")
        self.assertEqual(desk.say("drop abcdefgh"), "ok")
        self.assertEqual((len(desk), desk.say("names")), (2, "a b"))
        self.refused(desk, "drop abcdefgh", NoName, name="abcdefgh")
        self.assertEqual([desk.say("drop a"), desk.say("drop b"), desk.say("names")], ["ok", "ok", "-"])
        self.assertEqual(len(desk), 0)

    def test_in_anothers_stead(self):
        desk = desk_with(a=PAIR, b="field 0; places x")
        desk.say("plain a 1")
        desk.say("wish a x = 0")
        self.assertEqual(desk.say("sheet a field 7; places u v; u - 1 = 0"), "ok")
        self.assertEqual((len(desk), desk.say("names"), desk.say("shown a")), (2, "a b", "field 7; places u v; 6 + u = 0"))
        # Neither papers nor wishes of the old one are left.
        self.refused(desk, "back a", NoWish)
        self.assertEqual(desk.say("plain a 1"), "worths new")

    def test_any_expression(self):
        desk = desk_with(a="field 0; places x y; (x - 1)*(y + 1/2) = 0; -(x + y) >= 0; 1 >= 0")
        self.assertEqual(desk.say("shown a"), "field 0; places x y; -1/2 + 1/2*x - y + x*y = 0; -x - y >= 0; 1 >= 0")

    def test_what_is_shown_is_read_to_the_same(self):
        chance = seeded(290)
        for field in SOME_FIELDS:
            for _ in range(10):
                system = some_system(field, chance, uppers=2)
                text = shown((NAMES[:system.places()], system)).replace("\n", "; ")
                desk = desk_with(a=text)
                self.assertEqual(desk.say("shown a"), text)
                desk.say("sheet b " + desk.say("shown a"))
                self.assertEqual(desk.say("shown b"), text)

    def test_no_sheet(self):
        desk = desk_with(a=PAIR)
        for text, row in (("field 4; places x", 0), ("field 0", 1), ("field 0; places", 1), ("field 0; places X", 1),
                          ("field 0; places x; x", 2), ("field 0; places x; x = 0; ", 3), ("field 0;places x", 0),
                          ("field 0; places x; x >= 0; x = 0", 3), ("field 2; places x; x >= 0", 2), (" ", 0), (" field 0; places x", 0),
                          ("field 0;  places x", 1), ("field 0; places x; y = 0", 2), ("field 0; places x;  x = 0", 2), ("\t", 0)):
            for name in ("a", "b"):
                self.refused(desk, f"sheet {name} {text}", NoText, row=row)
        self.assertEqual(desk.say("names"), "a")

    def test_two_desks_apart(self):
        one, other = desk_with(a=PAIR), Desk()
        self.assertEqual((len(one), len(other), other.say("names")), (1, 0, "-"))
        other.say(f"sheet a {PAIR}")
        other.say("wish a x = 0")
        self.assertEqual(one.say("plain a 1"), "worths new")
        self.assertEqual(other.say("plain a 2"), "showing new")
        self.assertEqual(one.say("plain a 2"), "showing new")
        self.refused(one, "back a", NoWish)
        self.assertEqual(other.say("drop a"), "ok")
        self.assertEqual(len(one), 1)

    def test_by_name(self):
        self.assertEqual(Desk().say(row="names"), "-")


class Wishes(Said):
    def test_put_in_and_taken_back(self):
        desk = desk_with(a="field 0; places x y")
        self.assertEqual(desk.say("wish a x - y >= 0"), "ok")
        self.assertEqual(desk.say("wish a (x - 1/2)*(y + 2) = 0"), "ok")
        self.assertEqual(desk.say("wish a -x >= 0"), "ok")
        self.assertEqual(desk.say("shown a"), "field 0; places x y; -1 + 2*x - 1/2*y + x*y = 0; x - y >= 0; -x >= 0")
        self.assertEqual(desk.say("back a"), "ok")
        self.assertEqual(desk.say("shown a"), "field 0; places x y; -1 + 2*x - 1/2*y + x*y = 0; x - y >= 0")
        self.assertEqual([desk.say("back a"), desk.say("back a")], ["ok", "ok"])
        self.assertEqual(desk.say("shown a"), "field 0; places x y")
        self.refused(desk, "back a", NoWish)

    def test_the_sheets_own_wishes_stay(self):
        desk = desk_with(a=PAIR)
        self.refused(desk, "back a", NoWish)

    def test_no_wish(self):
        desk = desk_with(a=PAIR, b="field 7; places p")
        for row in ("x", "x = 1", "x >= 1", "x = 0 ", " x = 0", "  x = 0", "z = 0", "x == 0", "x > 0", "= 0", " = 0", "x=0", "x  = 0", "-",
                    "x <= 0", "field 0", "places x", "x = 0; y = 0", "2/0 = 0", " "):
            self.refused(desk, f"wish a {row}", NoText, row=0)
        self.refused(desk, "wish b p + 1/7 = 0", NoText, row=0)
        # Over a prime nothing is below nought.
        self.refused(desk, "wish b p >= 0", NoSystem, part="uppers", number=None)
        self.refused(desk, "wish b q >= 0", NoText, row=0)

    def test_two_hundred_of_a_kind(self):
        desk = desk_with(a="field 0; places x; x = 0; x >= 0")
        for _ in range(199):
            self.assertEqual(desk.say("wish a x = 0"), "ok")
        with self.assertRaises(NoSystem) as caught:
            desk.say("wish a x = 0")
        self.assertEqual((caught.exception.part, caught.exception.number), ("noughts", None))
        self.assertEqual(desk.say("wish a x >= 0"), "ok")
        self.assertEqual(desk.say("shown a").count("; "), 203)


class Papers(Said):
    def test_fillings(self):
        chance = seeded(291)
        for field in SOME_FIELDS:
            for _ in range(15):
                system = some_system(field, chance, uppers=2)
                desk = desk_with(a=shown((NAMES[:system.places()], system)).replace("\n", "; "))
                found = ["".join(map(str, filling)) for filling in fillings(system, True)]
                self.assertEqual(desk.say("fillings a"), " ".join(found) or "-")
        desk = desk_with(a="field 0; places x y; x + y - 1 = 0; x - y >= 0", b=PAIR)
        self.assertEqual((desk.say("fillings a"), desk.say("fillings b")), ("10", "-"))
        desk.say("sheet c field 2; places a b c d e f g h i j k l m")
        self.refused(desk, "fillings c", TooMany)

    def test_plain_and_sided(self):
        desk = desk_with(a=PAIR)
        rows = (("plain a 1", "worths new"), ("plain a 1", "worths kept"), ("plain a 0", "worths kept"), ("plain a 3", "showing new"),
                ("plain a 2", "showing new"), ("plain a 300", "showing kept"), ("sided a 0", "worths new"), ("sided a 1", "worths new"),
                ("sided a 2", "showing new"), ("sided a 2", "showing kept"))
        for row, answer in rows:
            self.assertEqual(desk.say(row), answer)
        # A nought more takes worths away, and leaves showings.
        desk.say("wish a x = 0")
        self.assertEqual([desk.say(f"plain a {degree}") for degree in (2, 1)], ["showing kept", "showing new"])
        desk.say("back a")
        self.assertEqual([desk.say(f"plain a {degree}") for degree in (2, 1)], ["showing kept", "worths new"])

    def test_as_told(self):
        chance = seeded(292)
        for field in SOME_FIELDS:
            for _ in range(8):
                system = some_system(field, chance, most_places=3, uppers=1)
                desk = desk_with(a=shown((NAMES[:system.places()], system)).replace("\n", "; "))
                for degree in (3, 0, 1, 2, 5):
                    self.assertEqual(desk.say(f"plain a {degree}").split(" ")[0], told(system, degree)[0])
                    if field == FRACTIONS:
                        self.assertEqual(desk.say(f"sided a {degree}").split(" ")[0], told_sided(system, degree)[0])
                    else:
                        self.refused(desk, f"sided a {degree}", NoField)

    def test_least(self):
        chance = seeded(293)
        for field in SOME_FIELDS:
            for _ in range(12):
                system = some_system(field, chance, most_places=3, uppers=1)
                desk = desk_with(a=shown((NAMES[:system.places()], system)).replace("\n", "; "))
                for word, tell in (("least", least), ("sidedleast", least_sided)):
                    if field != FRACTIONS and word == "sidedleast":
                        self.refused(desk, "sidedleast a", NoField)
                        continue
                    found = tell(system)
                    wanted = f"least {found[1]}" if found[0] == "least" else "filled " + "".join(map(str, found[1]))
                    self.assertEqual(desk.say(f"{word} a"), wanted)
        desk = desk_with(a=PAIR, b="field 0; places x y; x + y - 1 = 0; x - 1/2 >= 0")
        self.assertEqual([desk.say(row) for row in ("least a", "sidedleast a", "least b", "sidedleast b")],
                         ["least 2", "least 2", "filled 01", "filled 10"])

    def test_nothing_of_it_is_kept(self):
        desk = desk_with(a=PAIR)
        desk.say("least a")
        desk.say("sidedleast a")
        self.assertEqual([desk.say(f"plain a {degree}") for degree in (2, 1)], ["showing new", "worths new"])
        self.assertEqual([desk.say(f"sided a {degree}") for degree in (2, 1)], ["showing new", "worths new"])

    def test_worth(self):
        desk = desk_with(a=PAIR, b="field 7; places p q; p - 1 = 0; q = 0")
        self.assertEqual(desk.say("worth a 1 x"), "1/2")
        self.assertEqual(desk.say("worth a 1 1 - 3*x"), "-1/2")
        self.assertEqual(desk.say("worth a 1 x - y"), "0")
        self.assertEqual(desk.say("worth a 1 (x + y)*2"), "2")
        self.assertEqual(desk.say("worth a 0 5"), "5")
        self.assertEqual(desk.say("worth a 0 x - x"), "0")
        self.assertEqual(desk.say("worth b 2 3*p - 5 + 100*q"), "5")
        # Too many places, and a showing.
        self.assertEqual(desk.say("worth a 1 x*y"), "-")
        self.assertEqual(desk.say("worth a 0 x"), "-")
        self.assertEqual(desk.say("worth a 2 x"), "-")

    def test_what_worth_tells_is_kept(self):
        desk = desk_with(a=PAIR)
        desk.say("worth a 1 x")
        self.assertEqual(desk.say("plain a 1"), "worths kept")
        self.assertEqual(desk.say("sided a 1"), "worths new")
        self.assertEqual(desk.say("worth a 2 x"), "-")
        self.assertEqual(desk.say("plain a 2"), "showing kept")
        desk = desk_with(a=PAIR)
        self.assertEqual(desk.say("worth a 0 x*y"), "-")
        self.assertEqual([desk.say("plain a 0"), desk.say("plain a 1")], ["worths kept", "worths new"])

    def test_worth_by_the_worths_that_are_kept(self):
        chance = seeded(294)
        for field in SOME_FIELDS:
            for _ in range(10):
                system = some_system(field, chance, most_places=3, most_noughts=1)
                names = NAMES[:system.places()]
                desk = desk_with(a=shown((names, system)).replace("\n", "; "))
                word, paper = told(system, 3)
                for text in ("1", "a", "a*a - 2/5" if field.prime() != 5 else "a", "-a"):
                    found = desk.say(f"worth a 3 {text}")
                    if word == "showing":
                        self.assertEqual(found, "-")
                    else:
                        # The worths told are those that telling tells of this system, each time.
                        top, bottom = worth_of(paper, read_sum(field, names, text))
                        self.assertEqual(found, f"{top}" if bottom == 1 else f"{top}/{bottom}")

    def test_great_numbers(self):
        desk = desk_with(a=f"field 0; places x; {'9' * 30}*x - {'1' * 29}/{'7' * 30} = 0")
        top, bottom = worth_of(told(read(desk.say("shown a").replace("; ", "\n"))[1], 1)[1], read_sum(FRACTIONS, ["x"], "x"))
        self.assertEqual(desk.say("worth a 1 x"), f"{top}/{bottom}")

    def test_refused_of_worth(self):
        desk = desk_with(a=PAIR)
        for text in ("z", "x +", "x  + y", " x", "x ", "x = 0", " ", "1/0", "--x", "x; y"):
            self.refused(desk, f"worth a 1 {text}", NoText, row=0)
        self.assertEqual(desk.say("plain a 1"), "worths new")
        for degree in (301, 999):
            for text in ("x", "z", " "):
                self.refused(desk, f"worth a {degree} {text}", NoDegree)
        desk.say("sheet b field 0; places " + " ".join(first + second for first in "abcdef" for second in "abcdefghij"))
        for text in ("aa", "?"):
            self.refused(desk, f"worth b 3 {text}", TooMany)
        self.refused(desk, "worth b 1 ?", NoText, row=0)
        self.assertEqual(desk.say("plain b 1"), "worths new")


class Refusals(Said):
    DESK_ROWS = ["drop {}", "shown {}", "wish {} x = 0", "back {}", "fillings {}", "plain {} 1", "sided {} 1", "least {}", "sidedleast {}",
                 "worth {} 1 x"]

    def test_no_text(self):
        desk = desk_with(a=PAIR)
        for row in but(str) + [0, b"names", ["names"], ("names",)]:
            self.refused(desk, row, NoRow)

    def test_no_rows(self):
        desk = desk_with(a=PAIR)
        rows = ["", " ", "name", "Names", "sheets", "a", "?", "names a", "names ", " names", "names\n", "\nnames", "names\t", "namesnames"]
        for word in ("sheet", "drop", "shown", "wish", "back", "fillings", "plain", "sided", "least", "sidedleast", "worth"):
            rows += [word, word + " ", word + "  ", " " + word + " a", word + "\na"]
        for word in ("drop", "shown", "back", "fillings", "least", "sidedleast"):
            rows += [f"{word} a a", f"{word} a ", f"{word}  a", f"{word} a 1", f"{word} a\n"]
        for word in ("plain", "sided"):
            rows += [f"{word} a", f"{word} a ", f"{word} a 1 ", f"{word} a  1", f"{word}  a 1", f"{word} a 1 1", f"{word} a 1\n", f"{word} 1 a"]
            rows += [f"{word} a {degree}" for degree in ("01", "00", "-1", "+1", "1.0", "1000", "0001", "x", "1_0", "1a", "1/1", "\t1", "2*3")]
        for word in ("sheet", "wish"):
            rows += [f"{word} a", f"{word} a ", f"{word}  a x", f"{word} a x = 0\n"]
        rows += ["worth a", "worth a 1", "worth a 1 ", "worth a  1 x", "worth  a 1 x", "worth a x 1", "worth a 01 x", "worth a 1\nx", "worth a 1 x\n",
                 "worth a 1000 x", "sheet a field 0\nplaces x", f"sheet a {PAIR}\n"]
        for row in rows:
            self.refused(desk, row, NoRow)

    def test_names_that_are_none(self):
        desk = desk_with(a=PAIR)
        for name in ("A", "aB", "a1", "1", "abcdefghi", "a_b", "a-b", "", "?", "a;", "a\t", "\ta"):
            for row in self.DESK_ROWS + ["sheet {} " + PAIR]:
                self.refused(desk, row.format(name), NoRow)

    def test_names_by_which_nothing_is_kept(self):
        desk = desk_with(a=PAIR)
        for name in ("b", "aa", "abcdefgh", "names", "sheet"):
            for row in self.DESK_ROWS:
                self.refused(desk, row.format(name), NoName, name=name)
        # Ahead of what the points refuse, behind what is no row.
        self.refused(desk, "plain b 999", NoName, name="b")
        self.refused(desk, "plain b 1000", NoRow)
        self.refused(desk, "worth b 999 ?", NoName, name="b")
        self.refused(desk, "wish b ?", NoName, name="b")
        self.refused(desk, "wish b ", NoRow)
        self.refused(desk, "sheet b ?", NoText, row=0)

    def test_as_the_points_refuse(self):
        desk = desk_with(a=PAIR, b="field 7; places p")
        for degree in (301, 999):
            self.refused(desk, f"plain a {degree}", NoDegree)
            self.refused(desk, f"sided a {degree}", NoDegree)
            self.refused(desk, f"sided b {degree}", NoField)
        desk.say("sheet c field 0; places " + " ".join(first + second for first in "abcdef" for second in "abcdefghij"))
        for row in ("plain c 3", "sided c 2", "least c", "sidedleast c", "fillings c"):
            self.refused(desk, row, TooMany)
        self.assertEqual(desk.say("plain c 1"), "worths new")

    def test_what_kinds_refusals_are(self):
        self.assertTrue(issubclass(NoRow, FalseError))
        self.assertTrue(issubclass(NoName, KeyError))
        self.assertFalse(issubclass(NoName, FalseError))


if __name__ == "__main__":
    unittest.main()
