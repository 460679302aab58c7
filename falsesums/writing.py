"""How numbers and sums are written out."""

# A step of figures at a time: Python itself writes no number of more than 4300 figures.
STEP_FIGURES = 64
STEP = 10 ** 64


def shown_whole(number):
    """A whole number from nought on, however many figures it has."""
    steps = []
    while number >= STEP:
        number, rest = divmod(number, STEP)
        steps.append(str(rest).zfill(STEP_FIGURES))
    steps.append(str(number))
    return "".join(steps[::-1])


def shown_unsigned(number):
    """A number of a field, TOP or TOP/BOTTOM, without its sign."""
    top = shown_whole(abs(number[0]))
    if number[1] == 1:
        return top
    return f"{top}/{shown_whole(number[1])}"


def shown_term(names, product, number):
    """A term without its sign."""
    factors = [names[place] for place in product]
    if not factors or abs(number[0]) != 1 or number[1] != 1:
        factors = [shown_unsigned(number)] + factors
    return "*".join(factors)


def shown_terms(names, terms):
    """The terms of a sum, in the order in which they stand, place i called by names[i]."""
    if not terms:
        return "0"
    words = []
    for product, number in terms:
        words.append(" - " if number[0] < 0 else " + ")
        words.append(shown_term(names, product, number))
    words[0] = "-" if words[0] == " - " else ""
    return "".join(words)
