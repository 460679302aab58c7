"""Sums as texts, read and written by names of places."""

from falsesums.errors import NoNumber, NoText
from falsesums.kinds import MOST_PLACES
from falsesums.sums import Sum
from falsesums.writing import shown_terms

LETTERS = "abcdefghijklmnopqrstuvwxyz"
FIGURES = "0123456789"
MOST_LETTERS = 8
MOST_FIGURES = 30
MOST_BRACKETS = 8
MOST_SIZE = 2000


def is_name(thing):
    """Whether thing is a name, one to eight small letters."""
    if not isinstance(thing, str) or not 1 <= len(thing) <= MOST_LETTERS:
        return False
    return all([sign in LETTERS for sign in thing])


def are_names(thing):
    """Whether thing is a list of one to sixty unlike names."""
    if not isinstance(thing, list) or not 1 <= len(thing) <= MOST_PLACES:
        return False
    return all([is_name(name) for name in thing]) and len(set(thing)) == len(thing)


def read_sum(field, names, text):
    """The sum over the field that the text means, place i called by names[i]."""
    if not are_names(names) or not isinstance(text, str):
        raise NoText(0)
    return Reader(field, names, text).read_all()


def shown_sum(names, one):
    """The sum as a text, place i called by names[i]."""
    return shown_terms(names, one.terms())


def bounded(size):
    """The size, where it is allowed: refused before anything of that size is multiplied out."""
    if size > MOST_SIZE:
        raise NoText(0)
    return size


class Reader:
    """Reads an expression from left to right; what it reads is told as a tuple (sum, size)."""

    def __init__(self, field, names, text):
        self.its_field = field
        self.place_of = {name: place for place, name in enumerate(names)}
        self.text = text
        self.at = 0

    def read_all(self):
        """The sum that the whole text means."""
        one, size = self.read_expression(0)
        if self.at != len(self.text):
            raise NoText(0)
        return one

    def passes(self, word):
        """Whether the word stands next; then it is passed."""
        if not self.text.startswith(word, self.at):
            return False
        self.at += len(word)
        return True

    def run_of(self, signs):
        """All that stands next of these signs, perhaps nothing."""
        start = self.at
        while self.at < len(self.text) and self.text[self.at] in signs:
            self.at += 1
        return self.text[start:self.at]

    def read_expression(self, depth):
        """Parts with signs between, within so many brackets."""
        terms, size = [], 0
        sign = -1 if self.passes("-") else 1
        while sign != 0:
            one, more = self.read_part(depth)
            size = bounded(size + more)
            terms.extend(one.scaled(self.its_field.made(sign)).terms())
            sign = self.read_sign()
        return Sum(self.its_field, terms), size

    def read_sign(self):
        """1 or -1 for the sign between two parts, 0 where none stands next."""
        if self.passes(" + "):
            return 1
        return -1 if self.passes(" - ") else 0

    def read_part(self, depth):
        """Factors with stars between."""
        one, size = self.read_factor(depth)
        factors = [one]
        while self.passes("*"):
            one, more = self.read_factor(depth)
            size = bounded(size * more)
            factors.append(one)
        # The short ones first: so the long ones are multiplied once, and not by each of many.
        factors = sorted(factors, key=len)
        whole = factors[0]
        for one in factors[1:]:
            whole = whole.times(one)
        return whole, size

    def read_factor(self, depth):
        """A number, a name or an expression in brackets."""
        if self.passes("("):
            return self.read_bracket(depth + 1)
        word = self.run_of(LETTERS)
        if not word:
            return Sum(self.its_field, [((), self.read_number())]), 1
        if word not in self.place_of:
            raise NoText(0)
        return Sum(self.its_field, [((self.place_of[word],), self.its_field.made(1))]), 1

    def read_bracket(self, depth):
        """What stands behind a bracket, up to the one that closes it."""
        if depth > MOST_BRACKETS:
            raise NoText(0)
        one, size = self.read_expression(depth)
        if not self.passes(")"):
            raise NoText(0)
        return one, size

    def read_number(self):
        """A number of the field, TOP or TOP/BOTTOM."""
        top = self.read_figures()
        bottom = self.read_figures() if self.passes("/") else 1
        try:
            return self.its_field.made(top, bottom)
        except NoNumber:
            raise NoText(0) from None

    def read_figures(self):
        """A whole number without a nought ahead."""
        word = self.run_of(FIGURES)
        if not 1 <= len(word) <= MOST_FIGURES or word[0] == "0" and word != "0":
            raise NoText(0)
        return int(word)
