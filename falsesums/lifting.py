"""Equations in whole numbers, solved exactly from what solves them over a prime.

An answer over a prime is its own remainder by the prime; what is then left over, divided by
the prime, is solved in the same way for the next figure, and so on, until fractions with small
tops and bottoms fit the figures. They are tried by putting them in, so nothing is left to luck.
"""

from falsesums.packing import unpacked


def nearest(number, modulus):
    """What number leaves by the modulus, nearest to nought."""
    rest = number % modulus
    return rest - modulus if 2 * rest > modulus else rest


def small_bottom(rest, modulus, most):
    """A number that, times rest, leaves at most so much by the modulus, up or down."""
    last, share, last_share = modulus, 1, 0
    while rest > most:
        many = last // rest
        last, rest = rest, last - many * rest
        last_share, share = share, last_share - many * share
    return abs(share)


def fitting(rests, modulus):
    """A tuple (tops, bottom) of small numbers: each top by the bottom leaves its rest; or None."""
    most = 1 << ((modulus.bit_length() - 2) // 2)
    bottom = 1
    for rest in rests:
        if abs(nearest(rest * bottom, modulus)) > most:
            bottom *= small_bottom(rest * bottom % modulus, modulus, most)
            if bottom > most:
                return None
    return ([nearest(rest * bottom, modulus) for rest in rests], bottom)


def put_into(equation, values):
    """What the left side of an equation, tuples (unknown, whole number), comes to."""
    return sum([number * values[unknown] for unknown, number in equation])


def solves(equations, goals, tops, bottom):
    """Whether the tops by the bottom solve the equations."""
    return all([put_into(equation, tops) == goal * bottom for equation, goal in zip(equations, goals)])


def next_figures(prime, width, sides, goals):
    """The unknowns over the prime; sides has, packed, what each equation's goal gives to each unknown."""
    total = 0
    for side, goal in zip(sides, goals):
        total += goal % prime * side
    return [figure % prime for figure in unpacked(total, len(sides), width)]


def solved(prime, width, sides, equations, goals):
    """A tuple (tops, bottom): the unknowns, as many as equations, of which sides tells them over the prime."""
    left, modulus, rests = goals, 1, [0] * len(goals)
    figures, wanted = 0, 2
    while True:
        found = next_figures(prime, width, sides, left)
        left = [(goal - put_into(equation, found)) // prime for equation, goal in zip(equations, left)]
        rests = [rest + figure * modulus for rest, figure in zip(rests, found)]
        modulus *= prime
        figures += 1
        if figures == wanted:
            wanted += (wanted + 1) // 2
            fit = fitting(rests, modulus)
            if fit is not None and solves(equations, goals, fit[0], fit[1]):
                return fit
