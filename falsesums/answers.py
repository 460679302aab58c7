"""Whether 1 in the first column is made of rows, and a paper that says so either way.

Rows are as in falsesums.lines. Over the fractions a prime is taken in their stead; what comes
of it is made exact and looked at, and where it was so over that prime alone the next one is taken.
"""

from falsesums.fields import lowest
from falsesums.lifting import put_into, solved
from falsesums.lines import answer_over_prime, rank_over_prime, taken_in
from falsesums.packing import packed

# The greatest prime of thirty bits: numbers below it are short ones to Python.
FIRST_PRIME = 1073741789


def answer(prime, rows, columns):
    """A tuple (`made`, a dict from numbers of rows to numbers of the field: the rows, each times its
    number, come together to 1 in the first column), or (`held`, a list of a number for each column,
    1 for the first one: by them each row is worth 0).
    """
    if prime:
        return answer_over_prime(prime, rows, columns)
    word, paper, many = exact_answer(rows, columns, [1] + [0] * (columns - 1))
    return (word, paper)


def rank(prime, rows, columns):
    """The rank of the rows; None where 1 in the first column is made of them."""
    if prime:
        return rank_over_prime(prime, rows, columns)
    # Numbers without a pattern: a row that is a sum of the others over one prime alone would not fit them.
    chosen = [1] + [(column * column * column + 7 * column) % 1009 + 1 for column in range(1, columns)]
    word, paper, many = exact_answer(rows, columns, chosen)
    return many if word == "held" else None


def exact_answer(rows, columns, chosen):
    """As answer tells, over the fractions, and the rank; columns that are free have the chosen numbers."""
    prime = FIRST_PRIME
    while True:
        lines, found = taken_in(prime, rows, columns)
        word = "held" if found is None else "made"
        paper = held_paper(lines, rows, chosen) if found is None else made_paper(lines, rows, found[0])
        if paper is not None:
            return (word, paper, len(lines.lines))
        prime = prime_below(prime)


def prime_below(number):
    """The greatest prime below an odd number that is above 5."""
    number -= 2
    while not is_odd_prime(number):
        number -= 2
    return number


def is_odd_prime(number):
    """Whether an odd number above 2 is a prime."""
    divisor = 3
    while divisor * divisor <= number:
        if number % divisor == 0:
            return False
        divisor += 2
    return True


def held_paper(lines, rows, chosen):
    """Numbers for all columns by which each row is worth 0; None where the lines are the prime's alone."""
    equations, goals = [], []
    for source in lines.sources:
        equations.append([(lines.line_at[column], number) for column, number in rows[source]
                          if column in lines.line_at])
        goals.append(-put_into([term for term in rows[source] if term[0] not in lines.line_at], chosen))
    many = len(lines.lines)
    shares = [lines.slots(line, lines.columns, many) for line in lines.lines]
    sides = [packed([share[at] for share in shares], lines.width) for at in range(many)]
    tops, bottom = solved(lines.modulus, lines.width, sides, equations, goals)
    values = [number * bottom for number in chosen]
    for head, top in zip(lines.heads, tops):
        values[head] = top
    if any([put_into(row, values) for row in rows]):
        return None
    return [lowest(value, bottom) for value in values]


def made_paper(lines, rows, number):
    """A number for each row: together they make the first column; None where they do so over the prime alone.

    The row of this number is a sum of those that became lines, but in the first column.
    """
    equations = [[] for line in lines.lines]
    for at, source in enumerate(lines.sources):
        for column, factor in rows[source]:
            if column in lines.line_at:
                equations[lines.line_at[column]].append((at, factor))
    goals = [0] * len(equations)
    for column, factor in rows[number]:
        if column in lines.line_at:
            goals[lines.line_at[column]] = -factor
    sides = [line >> (lines.width * lines.columns) for line in lines.lines]
    tops, bottom = solved(lines.modulus, lines.width, sides, equations, goals)
    shares = [(source, top) for source, top in zip(lines.sources + [number], tops + [bottom]) if top]
    totals = [0] * lines.columns
    for source, top in shares:
        for column, factor in rows[source]:
            totals[column] += top * factor
    if any(totals[1:]):
        return None
    # In the first column something is left, as it is so over the prime.
    return {source: lowest(top, totals[0]) for source, top in shares}
