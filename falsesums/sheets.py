"""Sheets: systems with the names of their places, as texts."""

from falsesums.errors import NoText
from falsesums.fields import FRACTIONS, PRIMES, Field
from falsesums.systems import MOST_WISHES, System
from falsesums.texts import are_names, read_sum, shown_sum

NOUGHT_END = " = 0"
UPPER_END = " >= 0"


def read(text):
    """The sheet (names, system) that the text means."""
    if not isinstance(text, str):
        raise NoText(0)
    rows = text.split("\n")
    field = read_field(rows[0])
    if len(rows) == 1:
        raise NoText(1)
    names = read_names(rows[1])
    noughts, uppers = [], []
    for number, row in enumerate(rows[2:], start=2):
        wish, upper = read_numbered(field, names, row, number)
        if not stands(field, noughts, uppers, upper):
            raise NoText(number)
        if upper:
            uppers.append(wish)
        else:
            noughts.append(wish)
    return (names, System(field, len(names), noughts, uppers))


def stands(field, noughts, uppers, upper):
    """Whether a wish, upper or not, can stand behind these ones."""
    if upper:
        return field.prime() == FRACTIONS and len(uppers) < MOST_WISHES
    return not uppers and len(noughts) < MOST_WISHES


def read_field(row):
    """The field that the first row tells."""
    for prime in (FRACTIONS,) + PRIMES:
        if row == f"field {prime}":
            return Field(prime)
    raise NoText(0)


def read_names(row):
    """The names that the second row tells."""
    word, *names = row.split(" ")
    if word != "places" or not are_names(names):
        raise NoText(1)
    return names


def read_wish(field, names, row):
    """A tuple of the sum that a row wishes, and whether it should not be below nought."""
    if row.endswith(NOUGHT_END):
        return (read_sum(field, names, row.removesuffix(NOUGHT_END)), False)
    if row.endswith(UPPER_END):
        return (read_sum(field, names, row.removesuffix(UPPER_END)), True)
    raise NoText(0)


def read_numbered(field, names, row, number):
    """The wish of a row that stands in a sheet at this number."""
    try:
        return read_wish(field, names, row)
    except NoText:
        raise NoText(number) from None


def shown(sheet):
    """The sheet as a text."""
    names, system = sheet
    rows = [f"field {system.field().prime()}", "places " + " ".join(names)]
    rows.extend([shown_sum(names, nought) + NOUGHT_END for nought in system.noughts()])
    rows.extend([shown_sum(names, upper) + UPPER_END for upper in system.uppers()])
    return "\n".join(rows)
