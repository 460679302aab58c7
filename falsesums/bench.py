"""A bench: a system whose wishes come and go, and the papers told of it, kept as long as they stand."""

from falsesums.degrees import checked_degree
from falsesums.errors import NoWish
from falsesums.papers import cut, lets_worths
from falsesums.sided import checked_fractions, lets_sided_worths
from falsesums.sidedtelling import told_sided
from falsesums.sums import Sum
from falsesums.systems import System
from falsesums.telling import told


class KeptPaper:
    """A paper of either kind as a bench keeps it; it never changes, so benches may share it.

    Of a sided showing the rows stand apart; all other papers have none.
    """

    def __init__(self, sided, word, told_degree, body, rows):
        self.is_sided = sided
        self.word = word
        self.told_degree = told_degree
        self.body = body
        self.rows = rows

    def serves(self, degree, sided):
        """Whether it is of the kind asked for, and says what is there at the degree."""
        if self.is_sided != sided:
            return False
        return self.told_degree <= degree if self.word == "showing" else degree <= self.told_degree

    def at_degree(self, degree):
        """The paper, new, as it is told at a degree at which it serves."""
        if self.word == "worths":
            return cut(self.body, degree)
        return (list(self.body), list(self.rows)) if self.is_sided else list(self.body)

    def with_body(self, body):
        """The same paper with another body."""
        return KeptPaper(self.is_sided, self.word, self.told_degree, body, self.rows)

    def stands_in(self, system):
        """Whether it is worths of the system, or a showing, which no wish that is put in takes away."""
        if self.word == "showing":
            return True
        if self.is_sided:
            return lets_sided_worths(system, self.told_degree, self.body)
        return lets_worths(system, self.told_degree, self.body)

    def needs_nought(self):
        """Whether it is a showing in which the sum of the last nought isn't nought."""
        return self.word == "showing" and len(self.body[-1]) > 0

    def needs_upper(self, number):
        """Whether it is a showing that has a row of the upper of this number."""
        return any([row[1] == number for row in self.rows])


def kept_paper(sided, word, degree, paper):
    """What is told at a degree, as it is kept."""
    if sided and word == "showing":
        return KeptPaper(sided, word, degree, paper[0], paper[1])
    return KeptPaper(sided, word, degree, paper, [])


class Bench:
    """Keeps a system, the wishes that were put in, and papers."""

    def __init__(self, system):
        self.its_system = system
        self.its_papers = []
        # Of each wish that was put in and still stands, the last one last, whether it is an upper.
        self.put_kinds = []

    def system(self):
        """The system as it is now."""
        return self.its_system

    def kept(self):
        """How many papers are kept."""
        return len(self.its_papers)

    def twin(self):
        """Another bench with the same."""
        other = Bench(self.its_system)
        other.its_papers = list(self.its_papers)
        other.put_kinds = list(self.put_kinds)
        return other

    def put(self, wish, upper=False):
        """Puts in a wish behind the others, one that should come to nought, or should not be below nought."""
        old = self.its_system
        if upper:
            system = System(old.field(), old.places(), old.noughts(), old.uppers() + [wish])
            papers = self.its_papers
        else:
            system = System(old.field(), old.places(), old.noughts() + [wish], old.uppers())
            papers = [kept.with_body(kept.body + [Sum(old.field())]) if kept.word == "showing" else kept
                      for kept in self.its_papers]
        self.its_papers = [kept for kept in papers if kept.stands_in(system)]
        self.its_system = system
        self.put_kinds.append(bool(upper))

    def back(self):
        """Takes back the last wish put in that still stands."""
        if not self.put_kinds:
            raise NoWish("no wish that was put in stands any more")
        old = self.its_system
        if self.put_kinds.pop():
            number = len(old.uppers()) - 1
            self.its_papers = [kept for kept in self.its_papers if not kept.needs_upper(number)]
            self.its_system = System(old.field(), old.places(), old.noughts(), old.uppers()[:-1])
        else:
            papers = [kept for kept in self.its_papers if not kept.needs_nought()]
            self.its_papers = [kept.with_body(kept.body[:-1]) if kept.word == "showing" else kept for kept in papers]
            self.its_system = System(old.field(), old.places(), old.noughts()[:-1], old.uppers())

    def ask(self, degree, sided=False):
        """A tuple (word, paper, kept): what told, or told_sided, tells, and whether a paper that is kept told it."""
        if sided:
            checked_fractions(self.its_system.field())
        checked_degree(degree)
        for kept in self.its_papers:
            if kept.serves(degree, bool(sided)):
                return (kept.word, kept.at_degree(degree), True)
        word, paper = told_sided(self.its_system, degree) if sided else told(self.its_system, degree)
        new = kept_paper(bool(sided), word, degree, paper)
        self.its_papers.append(new)
        return (word, new.at_degree(degree), False)
