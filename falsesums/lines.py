"""Rows over a prime, reduced by one another to lines.

A row is a list of tuples (column, whole number), each column at most once. The first
column, 0, never heads a line: it is what rows should come to alone.
"""

from falsesums.fields import inverse
from falsesums.packing import packed, unpacked


class Lines:
    """Sums of rows: each line has 1 at its head, a column at which all the others have 0.

    A line is kept packed: a slot for each column, then one for each row that became a line,
    which tells how often that row is in it. Slots are left unreduced by the prime as long as
    they have room; so adding a line to another one is two steps, however long they are.
    """

    def __init__(self, prime, columns):
        self.modulus = prime
        self.columns = columns
        # Room for a sum of as many lines as there are columns, each times a number below the prime,
        # to each of which as many reduced lines were added in the same way.
        self.width = 3 * prime.bit_length() + 2 * columns.bit_length() + 2
        self.lines = []
        self.heads = []
        self.line_at = {}
        self.sources = []

    def slots(self, line, start, many):
        """So many slots of a line, from this one on, reduced by the prime."""
        found = unpacked(line >> (self.width * start), many, self.width)
        return [slot % self.modulus for slot in found]

    def shares(self, line):
        """How often each row that became a line is in this one, and behind them what comes next."""
        return self.slots(line, self.columns, len(self.lines) + 1)

    def less_heads(self, row):
        """The row as a line of its own, in which no other one has its head any more."""
        total = 1 << (self.width * (self.columns + len(self.lines)))
        for column, number in row:
            total += (number % self.modulus) << (self.width * column)
            if column in self.line_at:
                total += (-number % self.modulus) * self.lines[self.line_at[column]]
        return total

    def take(self, number, row):
        """Takes in the row of this number, or tells what it comes to.

        Where it comes to the first column alone a tuple is told: what it has there, and how often
        each row that became a line, and then the row itself, is in it. Else None is.
        """
        line = self.less_heads(row)
        slots = self.slots(line & ((1 << (self.width * self.columns)) - 1), 0, self.columns)
        head = last_column(slots)
        if head:
            self.add_line(number, head, slots + self.shares(line))
        elif slots[0]:
            return (slots[0], self.shares(line))
        return None

    def add_line(self, number, head, slots):
        """Makes a line of these slots, and takes its head out of all the others."""
        factor = inverse(slots[head], self.modulus)
        line = packed([slot * factor % self.modulus for slot in slots], self.width)
        for at, other in enumerate(list(self.lines)):
            there = (other >> (self.width * head) & ((1 << self.width) - 1)) % self.modulus
            if there:
                self.lines[at] = other + (self.modulus - there) * line
        self.line_at[head] = len(self.lines)
        self.lines.append(line)
        self.heads.append(head)
        self.sources.append(number)


def last_column(slots):
    """The last column that is not nought, 0 where only the first one may be so."""
    for column in range(len(slots) - 1, 0, -1):
        if slots[column]:
            return column
    return 0


def taken_in(prime, rows, columns):
    """A tuple of the lines of the rows, and None, or, where a row comes to the first column alone, a
    tuple of its number, what it has there, and how often each row is in it; no row behind it is looked at.
    """
    lines = Lines(prime, columns)
    for number, row in enumerate(rows):
        found = lines.take(number, row)
        if found is not None:
            return (lines, (number, found[0], found[1]))
    return (lines, None)


def answer_over_prime(prime, rows, columns):
    """As answers.answer tells, over a prime."""
    lines, found = taken_in(prime, rows, columns)
    if found is None:
        values = [1] + [0] * (columns - 1)
        for head, line in zip(lines.heads, lines.lines):
            values[head] = -lines.slots(line, 0, 1)[0] % prime
        return ("held", [(value, 1) for value in values])
    number, there, shares = found
    factor = inverse(there, prime)
    return ("made", {source: (share * factor % prime, 1)
                     for source, share in zip(lines.sources + [number], shares) if share})


def rank_over_prime(prime, rows, columns):
    """As answers.rank tells, over a prime."""
    lines, found = taken_in(prime, rows, columns)
    return len(lines.lines) if found is None else None
