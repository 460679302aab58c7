"""The refusals: each kind of failure has a class of its own."""


class FalseError(ValueError):
    """Any refusal but NoWorth and NoName."""


class NoField(FalseError):
    """What a field was to be made of is neither nought nor a prime from 2 to 97."""


class NoNumber(FalseError):
    """No number of the field is made of this, or it is none."""


class Unlike(FalseError):
    """Two things are not over the same field."""


class NoOrder(FalseError):
    """What should rename places is no order of them."""


class NoFilling(FalseError):
    """What should fill places is no filling."""


class NoSums(FalseError):
    """What should be put in for places is no list of fitting sums."""


class NoDegree(FalseError):
    """What should be a degree is none."""


class NoSize(FalseError):
    """The arguments of a famous system are none."""


class NoWeights(FalseError):
    """What should be weights are none."""


class NoWorths(FalseError):
    """What should be worths are none."""


class NoShowing(FalseError):
    """What should be a showing is none, or none is there."""


class NoLeading(FalseError):
    """What should lead a system into another does not."""


class NoLikeness(FalseError):
    """What should be likenesses are none."""


class NoWish(FalseError):
    """No wish that was put in stands any more."""


class TooMany(FalseError):
    """There would be more to look at than is allowed."""


class NoRow(FalseError):
    """What was said to a desk is no row that it answers."""


class NoSum(FalseError):
    """What should be terms is no list (number None), or the thing of that number in it is no term."""

    def __init__(self, number):
        self.number = number


class NoText(FalseError):
    """A text can't be read; row is the number of the first row that is amiss."""

    def __init__(self, row):
        self.row = row


class NoSystem(FalseError):
    """A part of a system is amiss: as a whole (number None), or its wish of that number."""

    def __init__(self, part, number):
        self.part = part
        self.number = number


class NoWorth(KeyError):
    """A product has no worth among the worths handed in."""

    def __init__(self, product):
        self.product = product


class NoName(KeyError):
    """Nothing is kept by this name."""

    def __init__(self, name):
        self.name = name
