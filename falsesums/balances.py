"""Shares, from nought on, by which a goal is made of columns; or weights, by which none are there."""

from falsesums.answers import answer
from falsesums.bases import settled
from falsesums.fields import Field, lowest, whole_tops


def whole_column(numbers):
    """Fractions as tuples (place, whole number), noughts left out, and the number that multiplied them."""
    tops, factor = whole_tops(numbers)
    return ([(place, top) for place, top in enumerate(tops) if top], factor)


def balance(columns, goal):
    """A tuple (`shares`, a share for each column), or (`weights`, a weight for each place of the goal)."""
    whole_columns = [whole_column(column) for column in columns]
    whole_goal, goal_factor = whole_column(goal)
    word, paper = balanced([column for column, factor in whole_columns], whole_goal, len(goal))
    if word == "weights":
        return (word, paper)
    field = Field()
    shares = [(0, 1)] * len(columns)
    for at, share in paper.items():
        shares[at] = field.over(field.times(share, whole_columns[at][1]), goal_factor)
    return (word, shares)


def balanced(columns, goal, size):
    """As balance tells, of whole columns and a whole goal of this size; shares are a dict by columns' numbers."""
    # First with shares of either sign: what comes of that is quickly found, and often says all.
    word, paper = signed(columns, goal, size)
    if word == "weights":
        return (word, paper)
    below = [at for at, share in paper.items() if share[0] < 0]
    if not below:
        return (word, paper)
    if len(columns) <= size:
        word, paper = lone(columns, below[0], size)
        if word == "weights":
            return (word, paper)
    return stepped(columns, goal, size)


def signed(columns, goal, size):
    """As balanced tells, but that shares may be below nought, and each column weighs 0."""
    rows = [[(place + 1, number) for place, number in column] for column in columns + [goal]]
    # The first column of the rows is the goal's alone: it is left over where columns take the goal away.
    rows[-1].append((0, 1))
    word, paper = answer(0, rows, size + 1)
    if word == "held":
        return ("weights", paper[1:])
    return ("shares", {at: (-top, bottom) for at, (top, bottom) in paper.items() if at < len(columns)})


def lone(columns, at, size):
    """Weights by which the column of this number weighs 1 and all the others 0; shares where there are none.

    Where there are, a goal has one share of that column alone, and weighs that share.
    """
    word, paper = signed(columns[:at] + columns[at + 1:], columns[at], size)
    if word == "weights":
        return (word, [(-top, bottom) for top, bottom in paper])
    return (word, paper)


def stepped(columns, goal, size, signed_columns=0):
    """As balanced tells, found step by step; the first so many columns weigh 0, and have shares of either sign."""
    amounts = [0] * size
    for place, number in goal:
        amounts[place] = number
    basis, place = settled(columns, amounts, signed_columns)
    if place is not None:
        sign = 1 if basis.amount(place) < 0 else -1
        return ("weights", [(sign * number, 1) for number in basis.unit_parts(place)])
    return ("shares", {at: lowest(basis.amount(place), basis.bottom)
                       for place, at in enumerate(basis.standing) if at is not None})
