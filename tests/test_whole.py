"""What the document promises over the whole program (points 1, 2 and 3, and the interface)."""

import copy
import importlib
import inspect
import unittest

from falsesums import (balances, bench, desk, errors, famous, fields, fillings, leadings, leasts, likenesses, mixtures, papers,
                       sheets, sided, sidedtelling, smallness, sums, systems, telling, texts)
from falsesums.bench import Bench
from falsesums.desk import Desk
from falsesums.fields import Field
from falsesums.sums import Sum
from falsesums.systems import System
from tests.helper import FRACTIONS, SOME_FIELDS, constant, linear, place, seeded, some_sum, some_system

ONE = (1, 1)
MINUS = (-1, 1)
NEEDED = inspect.Parameter.empty

# Each function and method with its arguments: a name, or a tuple of a name and what is taken where it is left out.
FUNCTIONS = {
    "fillings": {"is_filling": ["system", "thing", ("sided", False)], "fillings": ["system", ("sided", False)]},
    "texts": {"read_sum": ["field", "names", "text"], "shown_sum": ["names", "one"]},
    "sheets": {"read": ["text"], "shown": ["sheet"]},
    "papers": {"lets_showing": ["system", "degree", "thing"], "lets_worths": ["system", "degree", "thing"],
               "worth_of": ["worths", "one"], "cut": ["worths", "degree"], "worths_of": ["system", "degree", "filling"]},
    "telling": {"told": ["system", "degree"], "free": ["system", "degree"]},
    "leasts": {"least": ["system"]},
    "mixtures": {"is_weights": ["system", "thing"], "mixed": ["system", "degree", "weights"],
                 "weights_of": ["system", "degree", "worths"]},
    "balances": {"balance": ["columns", "goal"]},
    "sided": {"is_bracket": ["thing"], "bracket_sum": ["bracket"], "lets_sided": ["system", "degree", "thing"],
              "lets_sided_worths": ["system", "degree", "thing"], "sided_of": ["showing"]},
    "sidedtelling": {"told_sided": ["system", "degree"], "least_sided": ["system"],
                     "sided_weights": ["system", "degree", "worths"]},
    "leadings": {"is_leading": ["one", "other", "thing"], "led_filling": ["one", "other", "leading", "filling"],
                 "led_degree": ["one", "other", "leading", "degree"],
                 "carried": ["one", "other", "leading", "degree", "showing"],
                 "carried_back": ["one", "other", "leading", "degree", "worths"],
                 "joined": ["one", "other", "third", "first", "second"]},
    "likenesses": {"is_likeness": ["system", "thing"], "product_classes": ["system", "likenesses", "degree"],
                   "pair_classes": ["system", "likenesses", "degree"]},
    "smallness": {"small": ["system", "likenesses", "degree"],
                  "whole_showing": ["system", "likenesses", "degree", "small_showing"],
                  "whole_worths": ["system", "likenesses", "degree", "small_worths"]},
    "famous": {"guests": ["field", "many", "rooms"], "ring": ["field", "signs"], "web": ["edges", "odd"],
               "chain": ["field", "places"], "guests_showing": ["field", "many", "rooms"],
               "ring_showing": ["field", "signs"], "web_showing": ["edges", "odd"], "chain_showing": ["field", "places"]},
}
CLASSES = {
    ("fields", "Field"): {"__init__": [("prime", 0)], "prime": [], "made": ["top", ("bottom", 1)], "plus": ["one", "other"],
                          "minus": ["one", "other"], "times": ["one", "other"], "over": ["one", "other"],
                          "is_number": ["thing"]},
    ("sums", "Sum"): {"__init__": ["field", ("terms", None)], "field": [], "terms": [], "degree": [], "plus": ["other"],
                      "times": ["other"], "scaled": ["number"], "renamed": ["order"], "put_in": ["sums"],
                      "worth": ["filling"], "__len__": []},
    ("systems", "System"): {"__init__": ["field", "places", "noughts", ("uppers", None)], "field": [], "places": [],
                            "noughts": [], "uppers": [], "top": [], "renamed": ["order"], "__len__": []},
    ("bench", "Bench"): {"__init__": ["system"], "put": ["wish", ("upper", False)], "back": [],
                         "ask": ["degree", ("sided", False)], "system": [], "kept": [], "twin": []},
    ("desk", "Desk"): {"__init__": [], "say": ["row"], "__len__": []},
}
PLAIN_REFUSALS = ["NoField", "NoNumber", "Unlike", "NoOrder", "NoFilling", "NoSums", "NoDegree", "NoSize", "NoWeights",
                  "NoWorths", "NoShowing", "NoLeading", "NoLikeness", "NoWish", "TooMany", "NoRow"]


def arguments(function):
    """The names of its arguments, with what is taken where they are left out; self is none of them."""
    found = []
    for name, argument in inspect.signature(function).parameters.items():
        if name != "self":
            found.append(name if argument.default is NEEDED else (name, argument.default))
    return found


class Interface(unittest.TestCase):
    def test_functions(self):
        for module, functions in FUNCTIONS.items():
            for name, wanted in functions.items():
                function = getattr(importlib.import_module(f"falsesums.{module}"), name)
                self.assertEqual(arguments(function), wanted, f"{module}.{name}")

    def test_classes(self):
        for (module, name), methods in CLASSES.items():
            for method, wanted in methods.items():
                function = getattr(getattr(importlib.import_module(f"falsesums.{module}"), name), method)
                self.assertEqual(arguments(function), wanted, f"{module}.{name}.{method}")

    def test_refusals(self):
        self.assertEqual(errors.FalseError.__bases__, (ValueError,))
        for name in PLAIN_REFUSALS:
            kind = getattr(errors, name)
            self.assertEqual(kind.__bases__, (errors.FalseError,))
            self.assertEqual(str(kind("why")), "why")
        self.assertEqual(errors.NoSum(3).number, 3)
        self.assertEqual(errors.NoText(row=4).row, 4)
        refusal = errors.NoSystem(number=1, part="noughts")
        self.assertEqual((refusal.part, refusal.number), ("noughts", 1))
        for kind in (errors.NoSum, errors.NoText, errors.NoSystem):
            self.assertEqual(kind.__bases__, (errors.FalseError,))
        self.assertEqual((errors.NoWorth.__bases__, errors.NoWorth(product=(1,)).product), ((KeyError,), (1,)))
        self.assertEqual((errors.NoName.__bases__, errors.NoName(name="a").name), ((KeyError,), "a"))

    def test_lines(self):
        importlib.import_module("falsesums.lines")


def spoil(thing):
    """Empties all lists and dicts within what was told, but those of objects."""
    if isinstance(thing, dict):
        for one in list(thing.values()):
            spoil(one)
        thing.clear()
    elif isinstance(thing, (list, tuple)):
        for one in thing:
            spoil(one)
        if isinstance(thing, list):
            thing.clear()


def halves(places):
    """All places together should be half of their number."""
    return System(FRACTIONS, places, [linear(FRACTIONS, range(places), 0).plus(constant(FRACTIONS, -places, 2))])


def some_calls():
    """Functions with arguments by name, in another order than they stand in."""
    pair = System(FRACTIONS, 2, [linear(FRACTIONS, [0, 1], 1)], [place(0)])
    three, room = halves(3), famous.guests(FRACTIONS, 3, 2)
    showing, worths = telling.told(room, 1)[1], telling.told(pair, 2)[1]
    sided_worths, sided_showing = sidedtelling.told_sided(pair, 4)[1], sidedtelling.told_sided(three, 3)[1]
    turned = [[1, 2, 0]]
    same = ([place(at) for at in range(6)], [[constant(FRACTIONS, int(at == number)) for at in range(5)] for number in range(5)])
    own = ([place(0), place(1)], [[constant(FRACTIONS, 1)]])
    weights = {(0, 1): (1, 3), (1, 0): (2, 3)}
    text = "field 0\nplaces a b\na + b - 1 = 0\na >= 0"
    yield fillings.is_filling, {"sided": True, "thing": (1, 0), "system": pair}
    yield fillings.fillings, {"sided": False, "system": pair}
    yield texts.read_sum, {"text": "a - 2*b", "names": ["a", "b"], "field": FRACTIONS}
    yield texts.shown_sum, {"one": linear(FRACTIONS, [0, 1], 1), "names": ["a", "b"]}
    yield sheets.read, {"text": text}
    yield sheets.shown, {"sheet": (["a", "b"], pair)}
    yield papers.lets_showing, {"thing": showing, "degree": 1, "system": room}
    yield papers.lets_worths, {"thing": worths, "degree": 2, "system": pair}
    yield papers.worth_of, {"one": place(0), "worths": worths}
    yield papers.cut, {"degree": 1, "worths": worths}
    yield papers.worths_of, {"filling": (0, 1), "degree": 2, "system": pair}
    yield telling.told, {"degree": 2, "system": pair}
    yield telling.told, {"degree": 1, "system": room}
    yield telling.free, {"degree": 2, "system": pair}
    yield leasts.least, {"system": three}
    yield leasts.least, {"system": pair}
    yield mixtures.is_weights, {"thing": weights, "system": pair}
    yield mixtures.mixed, {"weights": weights, "degree": 3, "system": pair}
    yield mixtures.weights_of, {"worths": mixtures.mixed(pair, 3, weights), "degree": 3, "system": pair}
    yield balances.balance, {"goal": [ONE, MINUS], "columns": [[ONE, ONE], [ONE, (2, 1)]]}
    yield balances.balance, {"goal": [ONE, (2, 1)], "columns": [[ONE, ONE], [ONE, (3, 1)]]}
    yield sided.is_bracket, {"thing": ((0,), (1,))}
    yield sided.bracket_sum, {"bracket": ((0,), (1,))}
    yield sided.lets_sided, {"thing": sided_showing, "degree": 3, "system": three}
    yield sided.lets_sided_worths, {"thing": sided_worths, "degree": 4, "system": pair}
    yield sided.sided_of, {"showing": showing}
    yield sidedtelling.told_sided, {"degree": 3, "system": three}
    yield sidedtelling.told_sided, {"degree": 2, "system": three}
    yield sidedtelling.least_sided, {"system": three}
    yield sidedtelling.sided_weights, {"worths": sided_worths, "degree": 4, "system": pair}
    yield leadings.is_leading, {"thing": same, "other": room, "one": room}
    yield leadings.led_filling, {"filling": (0, 1), "leading": own, "other": pair, "one": pair}
    yield leadings.led_degree, {"degree": 2, "leading": same, "other": room, "one": room}
    yield leadings.carried, {"showing": showing, "degree": 1, "leading": same, "other": room, "one": room}
    yield leadings.carried_back, {"worths": worths, "degree": 2, "leading": own, "other": pair, "one": pair}
    yield leadings.joined, {"second": same, "first": same, "third": room, "other": room, "one": room}
    yield likenesses.is_likeness, {"thing": turned[0], "system": three}
    yield likenesses.product_classes, {"degree": 2, "likenesses": turned, "system": three}
    yield likenesses.pair_classes, {"degree": 2, "likenesses": turned, "system": three}
    yield smallness.small, {"degree": 4, "likenesses": turned, "system": three}
    yield smallness.small, {"degree": 2, "likenesses": turned, "system": three}
    yield smallness.whole_showing, {"small_showing": smallness.small(three, turned, 4)[1], "degree": 4,
                                    "likenesses": turned, "system": three}
    yield smallness.whole_worths, {"small_worths": smallness.small(three, turned, 2)[1], "degree": 2,
                                   "likenesses": turned, "system": three}
    yield famous.guests, {"rooms": 2, "many": 3, "field": FRACTIONS}
    yield famous.guests_showing, {"rooms": 2, "many": 3, "field": FRACTIONS}
    yield famous.ring, {"signs": [1, 1, -1], "field": FRACTIONS}
    yield famous.ring_showing, {"signs": [1, 1, -1], "field": FRACTIONS}
    yield famous.web, {"odd": [0], "edges": [(0, 1), (1, 2)]}
    yield famous.web_showing, {"odd": [0], "edges": [(0, 1), (1, 2)]}
    yield famous.chain, {"places": 4, "field": FRACTIONS}
    yield famous.chain_showing, {"places": 4, "field": FRACTIONS}


def some_deeds():
    """Methods, of what makes an object, with arguments by name."""
    pair = System(FRACTIONS, 2, [linear(FRACTIONS, [0, 1], 1)], [place(0)])
    one = Sum(FRACTIONS, [((), ONE), ((0, 1), (1, 2))])
    yield lambda: Field(7), [("made", {"bottom": 2, "top": 3}), ("plus", {"other": ONE, "one": ONE}), ("prime", {}),
                             ("minus", {"other": ONE, "one": ONE}), ("times", {"other": ONE, "one": ONE}),
                             ("over", {"other": ONE, "one": ONE}), ("is_number", {"thing": ONE})]
    yield lambda: one, [("terms", {}), ("degree", {}), ("field", {}), ("plus", {"other": one}), ("times", {"other": one}),
                        ("scaled", {"number": MINUS}), ("renamed", {"order": [3, 1]}), ("worth", {"filling": (1, 1)}),
                        ("put_in", {"sums": [one, one]})]
    yield lambda: pair, [("field", {}), ("places", {}), ("noughts", {}), ("uppers", {}), ("top", {}), ("renamed", {"order": [1, 0]})]
    yield lambda: Bench(system=pair), [("ask", {"sided": True, "degree": 2}), ("ask", {"degree": 1}), ("kept", {}), ("system", {}),
                                       ("put", {"upper": True, "wish": one}), ("put", {"wish": one}), ("back", {})]
    yield lambda: Desk(), [("say", {"row": "sheet a field 0; places x"}), ("say", {"row": "names"}), ("say", {"row": "plain a 1"})]


class HandedInAndTold(unittest.TestCase):
    def test_functions_by_name_in_any_order(self):
        seen = set()
        for function, asked in some_calls():
            seen.add((function.__module__.removeprefix("falsesums."), function.__name__))
            with self.subTest(function=function.__name__):
                before = copy.deepcopy(asked)
                first, second = function(**asked), function(**asked)
                self.assertEqual(first, second)
                self.assertEqual(asked, before)
                positions = [asked[name] for name in inspect.signature(function).parameters if name in asked]
                self.assertEqual(function(*positions), second)
                # What was told, emptied, changes neither what was handed in nor what is told next.
                spoil(first)
                self.assertEqual(asked, before)
                self.assertEqual(function(**asked), second)
        for module, functions in FUNCTIONS.items():
            for name in functions:
                self.assertIn((module, name), seen)

    def test_methods_by_name_in_any_order(self):
        for make, deeds in some_deeds():
            one, other = make(), make()
            for name, asked in deeds:
                with self.subTest(method=name):
                    before = copy.deepcopy(asked)
                    first, second = getattr(one, name)(**asked), getattr(other, name)(**asked)
                    self.assertEqual(first, second)
                    self.assertEqual(asked, before)
                    spoil(first)
                    self.assertEqual(asked, before)
                    if name not in ("put", "back", "ask", "say"):
                        self.assertEqual(getattr(one, name)(**asked), second)

    def test_lists_changed_behind_the_call(self):
        terms, wishes = [((0,), ONE)], [place(0)]
        one, system = Sum(FRACTIONS, terms), System(FRACTIONS, 1, wishes, wishes)
        kept = Bench(system)
        terms.append(((1,), ONE))
        wishes.clear()
        self.assertEqual(one, place(0))
        self.assertEqual((system.noughts(), system.uppers()), ([place(0)], [place(0)]))
        self.assertEqual(kept.system(), System(FRACTIONS, 1, [place(0)], [place(0)]))
        # What was told before stays as it was told, whatever is done later.
        told, many = kept.ask(1), len(kept.system())
        before = copy.deepcopy(told)
        kept.put(place(0))
        kept.back()
        kept.ask(0)
        self.assertEqual((told, many), (before, 2))

    def test_what_is_told_shares_nothing(self):
        # Two lists within one thing told are two lists.
        room = famous.guests(FRACTIONS, 3, 2)
        leading = leadings.joined(room, room, room, *[([place(at) for at in range(6)],
                                                       [[constant(FRACTIONS, int(at == number)) for at in range(5)]
                                                        for number in range(5)])] * 2)
        self.assertEqual(len({id(listed) for listed in leading[1]}), 5)
        classes = likenesses.product_classes(halves(3), [], 1)
        self.assertEqual(len({id(listed) for listed in classes}), 4)


class OrderOfRefusals(unittest.TestCase):
    def test_all_arguments_amiss(self):
        # The first of the refusals that the document tells, where each argument is amiss.
        seven, other = System(Field(7), 2, [place(0, Field(7))]), System(FRACTIONS, 2, [])
        thing = object()
        for kind, call in ((errors.NoText, lambda: texts.read_sum(FRACTIONS, thing, thing)),
                           (errors.NoDegree, lambda: papers.worths_of(seven, thing, thing)),
                           (errors.NoDegree, lambda: mixtures.mixed(seven, thing, thing)),
                           (errors.NoDegree, lambda: mixtures.weights_of(seven, thing, thing)),
                           (errors.NoField, lambda: sidedtelling.told_sided(seven, thing)),
                           (errors.NoField, lambda: sidedtelling.sided_weights(seven, thing, thing)),
                           (errors.NoField, lambda: sided.lets_sided(seven, thing, thing)),
                           (errors.NoField, lambda: sided.lets_sided_worths(seven, thing, thing)),
                           (errors.NoDegree, lambda: sidedtelling.sided_weights(other, thing, thing)),
                           (errors.Unlike, lambda: leadings.carried(seven, other, thing, thing, thing)),
                           (errors.NoLeading, lambda: leadings.carried(seven, seven, thing, thing, thing)),
                           (errors.NoLeading, lambda: leadings.carried_back(seven, seven, thing, thing, thing)),
                           (errors.NoLeading, lambda: leadings.led_filling(seven, seven, thing, thing)),
                           (errors.NoLikeness, lambda: likenesses.pair_classes(seven, thing, thing)),
                           (errors.NoField, lambda: smallness.small(seven, thing, thing)),
                           (errors.NoLikeness, lambda: smallness.whole_worths(other, thing, thing, thing)),
                           (errors.NoDegree, lambda: smallness.whole_showing(other, [], thing, thing)),
                           (errors.NoField, lambda: famous.guests(thing, thing, thing)),
                           (errors.NoSize, lambda: famous.guests(FRACTIONS, thing, thing)),
                           (errors.NoField, lambda: Bench(seven).ask(thing, True)),
                           (errors.NoSystem, lambda: System(thing, thing, thing, thing))):
            self.assertRaises(kind, call)


class Promise(unittest.TestCase):
    def test_just_one_of_two(self):
        # Whoever wrote it: what is let by of one kind is never there with the other.
        chance = seeded(300)
        for field in SOME_FIELDS:
            for _ in range(25):
                system = some_system(field, chance, uppers=1)
                degree = chance.randint(0, 4)
                word, paper = telling.told(system, degree)
                others = [telling.told(system.renamed(list(range(system.places()))), degree)[1]]
                others += [papers.worths_of(system, degree, filling) for filling in fillings.fillings(system)]
                for other in others + [paper]:
                    self.assertIs(papers.lets_showing(system, degree, other), word == "showing")
                    self.assertIs(papers.lets_worths(system, degree, other), word == "worths")
                if fillings.fillings(system):
                    self.assertEqual(word, "worths")

    def test_least_degrees_of_both_kinds(self):
        chance = seeded(301)
        for _ in range(40):
            system = some_system(FRACTIONS, chance, most_places=3, most_noughts=4, uppers=1)
            found, sided_found = leasts.least(system), sidedtelling.least_sided(system)
            kept = Bench(system)
            for degree in range(min(system.top(), 6) + 1):
                word = "worths" if found[0] == "filled" or degree < found[1] else "showing"
                self.assertEqual((telling.told(system, degree)[0], kept.ask(degree)[0]), (word, word))
                self.assertEqual(telling.free(system, degree) is None, word == "showing")
                self.assertEqual(smallness.small(system, [], degree)[0], word)
                word = "worths" if sided_found[0] == "filled" or degree < sided_found[1] else "showing"
                self.assertEqual((sidedtelling.told_sided(system, degree)[0], kept.ask(degree, True)[0]), (word, word))
            if found[0] == "least":
                self.assertEqual(sided_found[0], "least")
                self.assertLessEqual(sided_found[1], found[1])
                self.assertIs(sided.lets_sided(system, found[1], sided.sided_of(found[2])), True)

    def test_at_the_top_degree_worths_are_mixtures(self):
        chance = seeded(302)
        seen = 0
        for field in SOME_FIELDS:
            for _ in range(15):
                system = some_system(field, chance, most_places=3, most_noughts=1, uppers=1)
                top = system.top()
                word, paper = telling.told(system, top)
                self.assertEqual(word == "worths", bool(fillings.fillings(system)))
                if word == "worths":
                    weights = mixtures.weights_of(system, top, paper)
                    self.assertIs(mixtures.is_weights(system, weights), True)
                    self.assertEqual(mixtures.mixed(system, top, weights), paper)
                    if field == FRACTIONS and sidedtelling.told_sided(system, top)[0] == "worths":
                        seen += 1
                        paper = sidedtelling.told_sided(system, top)[1]
                        self.assertEqual(sidedtelling.sided_weights(system, top, paper), mixtures.weights_of(system, top, paper))
        self.assertGreater(seen, 5)

    def test_texts_through_all(self):
        # A text of every size: its showing, on a bench, led into itself, made small, of the second kind, on a desk.
        names = [first + second for first in "abcdefgh" for second in "abcdefgh"]
        for system, showing, degree in ((famous.guests(FRACTIONS, 4, 3), famous.guests_showing(FRACTIONS, 4, 3), 1),
                                        (famous.ring(FRACTIONS, [1, 1, -1]), famous.ring_showing(FRACTIONS, [1, 1, -1]), 4),
                                        (famous.chain(FRACTIONS, 4), famous.chain_showing(FRACTIONS, 4), 4)):
            self.assertIs(papers.lets_showing(system, degree, showing), True)
            self.assertEqual(fillings.fillings(system), [])
            self.assertLessEqual(leasts.least(system)[1], degree)
            self.assertEqual(telling.told(system, degree)[0], "showing")
            self.assertIs(sided.lets_sided(system, degree, sided.sided_of(showing)), True)
            self.assertEqual(sidedtelling.told_sided(system, min(degree, 2))[0],
                             "showing" if sidedtelling.least_sided(system)[1] <= min(degree, 2) else "worths")
            order = list(range(system.places()))[::-1]
            new = system.renamed(order)
            leading = ([place(order[at]) for at in range(system.places())],
                       [[constant(FRACTIONS, int(at == number)) for at in range(len(showing))] for number in range(len(showing))])
            self.assertIs(leadings.is_leading(system, new, leading), True)
            moved = leadings.carried(system, new, leading, degree, showing)
            self.assertEqual(moved, [one.renamed(order) for one in showing])
            self.assertIs(papers.lets_showing(new, degree, moved), True)
            kept = Desk()
            kept.say("sheet a " + sheets.shown((names[:system.places()], system)).replace("\n", "; "))
            self.assertEqual(kept.say("fillings a"), "-")
            self.assertEqual(kept.say(f"plain a {degree}"), "showing new")
            self.assertEqual(kept.say("least a"), f"least {leasts.least(system)[1]}")

    def test_small_papers_are_there_just_where_whole_ones_are(self):
        for many, rooms in ((2, 2), (3, 2), (2, 3), (3, 3)):
            system = famous.guests(FRACTIONS, many, rooms)
            orders = [[guest * rooms + (room + 1) % rooms for guest in range(many) for room in range(rooms)],
                      [(guest + 1) % many * rooms + room for guest in range(many) for room in range(rooms)]]
            self.assertTrue(all(likenesses.is_likeness(system, order) for order in orders))
            for degree in range(4):
                word, paper = smallness.small(system, orders, degree)
                self.assertEqual(word, telling.told(system, degree)[0])
                if word == "showing":
                    self.assertIs(papers.lets_showing(system, degree, smallness.whole_showing(system, orders, degree, paper)), True)
                else:
                    self.assertIs(papers.lets_worths(system, degree, smallness.whole_worths(system, orders, degree, paper)), True)

    def test_called_otherwise(self):
        chance = seeded(303)
        for field in SOME_FIELDS:
            for _ in range(10):
                system = some_system(field, chance, most_places=4, uppers=1)
                order = list(range(system.places()))
                chance.shuffle(order)
                new = system.renamed(order)
                self.assertEqual(len(fillings.fillings(new)), len(fillings.fillings(system)))
                one, other = Bench(system), Bench(new)
                for _ in range(6):
                    degree = chance.randint(0, 4)
                    self.assertEqual(one.ask(degree)[::2], other.ask(degree)[::2])
                    self.assertEqual(telling.free(system, degree), telling.free(new, degree))
                    if field == FRACTIONS:
                        self.assertEqual(one.ask(degree, True)[::2], other.ask(degree, True)[::2])
                self.assertEqual(leasts.least(system)[0], leasts.least(new)[0])

    def test_leadings_say_the_same(self):
        # Where one has a showing other has one, too; where other has worths one has.
        chance = seeded(304)
        for field in SOME_FIELDS:
            for _ in range(10):
                one = System(field, 2, [some_sum(field, 2, 3, chance) for _ in range(2)])
                both = Sum(field, [((0, 1), ONE)])
                lacked = constant(field, 1).plus(both.scaled(field.made(-1)))
                puts = [chance.choice([both, lacked, place(0, field)]), chance.choice([lacked, place(2, field)])]
                other = System(field, 3, [nought.put_in(puts) for nought in one.noughts()])
                leading = (puts, [[constant(field, int(at == number)) for at in range(2)] for number in range(2)])
                for degree in range(3):
                    above = leadings.led_degree(one, other, leading, degree)
                    word, paper = telling.told(one, degree)
                    if word == "showing":
                        moved = leadings.carried(one, other, leading, degree, paper)
                        self.assertIs(papers.lets_showing(other, above, moved), True)
                        self.assertEqual(telling.told(other, above)[0], "showing")
                    word, paper = telling.told(other, above)
                    if word == "worths":
                        back = leadings.carried_back(one, other, leading, degree, paper)
                        self.assertIs(papers.lets_worths(one, degree, back), True)
                        self.assertEqual(telling.told(one, degree)[0], "worths")

    def test_the_modules_are_there(self):
        for module in (balances, bench, desk, errors, famous, fields, fillings, leadings, leasts, likenesses, mixtures, papers, sheets,
                       sided, sidedtelling, smallness, sums, systems, telling, texts):
            self.assertTrue(module.__doc__)


if __name__ == "__main__":
    unittest.main()
