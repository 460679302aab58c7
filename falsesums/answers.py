"""Whether 1 in the first column is made of rows, and a paper that says so either way.

Rows are as in falsesums.lines. Over the fractions a prime is taken in their stead; what comes
of it is made exact and looked at, and where it was so over that prime alone the next one is taken.
"""

from falsesums.fields import lowest
from falsesums.lifting import put_into, solved
from falsesums.lines import answer_over_prime, rank_over_prime, taken_in
from falsesums.packing import packed

# The greatest prime of thirty bits: numbers below it are short ones to Python.
FIRST_PRIME = 1073741789


def answer(prime, rows, columns):
    """A tuple (`made`, a dict from numbers of rows to numbers of the field: the rows, each times its
    number, come together to 1 in the first column), or (`held`, a list of a number for each column,
    1 for the first one: by them each row is worth 0).
    """
    if prime:
        return answer_over_prime(prime, rows, columns)
    word, paper, sources = exact_answer(rows, columns)
    return (word, paper)


def exact_answer(rows, columns):
    """As answer tells, over the fractions, and numbers of rows of which none is a sum of the others."""
    prime = FIRST_PRIME
    while True:
        lines, found = taken_in(prime, rows, columns)
        word = "held" if found is None else "made"
        paper = Choice(lines, rows).paper(0) if found is None else made_paper(lines, rows, found[0])
        if paper is not None:
            return (word, paper, list(lines.sources))
        prime = prime_below(prime)


def rank(prime, rows, columns):
    """The rank of the rows; None where 1 in the first column is made of them."""
    if prime:
        return rank_over_prime(prime, rows, columns)
    prime = FIRST_PRIME
    while True:
        lines, found = taken_in(prime, rows, columns)
        if found is None:
            if is_whole_rank(lines, rows):
                return len(lines.lines)
        elif made_paper(lines, rows, found[0]) is not None:
            return None
        prime = prime_below(prime)


def is_whole_rank(lines, rows):
    """Whether there are as many lines over the fractions as over the prime; there are never fewer.

    Where each column that heads no line may be chosen alone, and all rows are worth 0 then, as many
    columns are free over the fractions, too.
    """
    if len(lines.lines) == len(rows):
        return True
    choice = Choice(lines, rows)
    for column in range(lines.columns):
        if column not in lines.line_at and choice.paper(column) is None:
            return False
    return True


def prime_below(number):
    """The greatest prime below an odd number that is above 5."""
    number -= 2
    while not is_odd_prime(number):
        number -= 2
    return number


def is_odd_prime(number):
    """Whether an odd number above 2 is a prime."""
    divisor = 3
    while divisor * divisor <= number:
        if number % divisor == 0:
            return False
        divisor += 2
    return True


class Choice:
    """A column that heads no line is worth 1, the others of that kind 0: what are the heads worth?"""

    def __init__(self, lines, rows):
        self.reduced = lines
        self.left_rows = rows_without(rows, lines.sources)
        self.equations = [[] for line in lines.lines]
        # What each column that heads no line has in the rows of the equations.
        self.chosen_terms = {}
        for at, source in enumerate(lines.sources):
            for column, number in rows[source]:
                if column in lines.line_at:
                    self.equations[at].append((lines.line_at[column], number))
                else:
                    self.chosen_terms.setdefault(column, []).append((at, number))
        many = len(lines.lines)
        shares = [lines.slots(line, lines.columns, many) for line in lines.lines]
        self.sides = [packed([share[at] for share in shares], lines.width) for at in range(many)]

    def paper(self, column):
        """Numbers for all columns by which each row is worth 0; None where the lines are the prime's alone."""
        lines = self.reduced
        goals = [0] * len(self.equations)
        for at, number in self.chosen_terms.get(column, []):
            goals[at] = -number
        tops, bottom = solved(lines.modulus, lines.width, self.sides, self.equations, goals)
        values = [0] * lines.columns
        values[column] = bottom
        for head, top in zip(lines.heads, tops):
            values[head] = top
        if any([put_into(row, values) for row in self.left_rows]):
            return None
        return [lowest(value, bottom) for value in values]


def rows_without(rows, numbers):
    """The rows that have none of these numbers."""
    left_out = {number: True for number in numbers}
    return [row for number, row in enumerate(rows) if number not in left_out]


def made_paper(lines, rows, number):
    """A number for each row: together they make the first column; None where they do so over the prime alone.

    The row of this number is a sum of those that became lines, but in the first column.
    """
    equations = [[] for line in lines.lines]
    for at, source in enumerate(lines.sources):
        for column, factor in rows[source]:
            if column in lines.line_at:
                equations[lines.line_at[column]].append((at, factor))
    goals = [0] * len(equations)
    for column, factor in rows[number]:
        if column in lines.line_at:
            goals[lines.line_at[column]] = -factor
    sides = [line >> (lines.width * lines.columns) for line in lines.lines]
    tops, bottom = solved(lines.modulus, lines.width, sides, equations, goals)
    shares = [(source, top) for source, top in zip(lines.sources + [number], tops + [bottom]) if top]
    totals = [0] * lines.columns
    for source, top in shares:
        for column, factor in rows[source]:
            totals[column] += top * factor
    if any(totals[1:]):
        return None
    # In the first column something is left, as it is so over the prime.
    return {source: lowest(top, totals[0]) for source, top in shares}
