"""Steps from basis to basis, by which a goal is made of columns with amounts from nought on.

At first at each place of the goal its lack stands, all of it, and no column. In each step something goes
out that should not stand as it does, a lack that isn't nought or a column that is below nought, and a
column comes in for it; lacks never come back. Where no column can come in, the place itself tells weights.
Each column has a cost from nought on, and comes in where it makes no other cost fall below nought: so what
is paid for all never becomes less, and steps never go round in a circle but perhaps where a cost is nought;
there, sooner or later, the first ones that can be are taken, and steps by these never do.
Columns that may be below nought come in ahead of all steps, cost nothing, and never go out.
"""

from falsesums.packing import in_every_slot, packed, signed_slot, unpacked_signed

# How much room for growing is left, so that it need not be made in each step.
SPARE_BITS = 8
# How many of the worst amounts are looked at more closely.
LOOKED_AT = 8
# How many steps may go without a cost before the first ones that can be are taken.
MOST_FREE_STEPS = 40
MOST_COST = 65521


def some_costs(many):
    """Costs without a pattern, so that seldom two of them fall to nought together."""
    costs = []
    cost = 1
    for at in range(many):
        cost = cost * 17364 % MOST_COST
        costs.append(cost)
    return costs


class Basis:
    """What stands at each place: a column, or still its lack.

    Columns are lists of tuples (place, whole number), the goal is whole numbers. A side tells, packed, of a
    unit at a place whose lack went out, or of the whole goal, how much it is of what stands at each place.
    These numbers, and costs, are over the bottom, and are whole: it is the determinant of what stands.
    """

    def __init__(self, columns, goal, signed_columns):
        self.columns = columns
        # The first so many columns may be below nought.
        self.signed_columns = signed_columns
        self.size = len(goal)
        self.standing = [None] * self.size
        self.costs = [0] * signed_columns + some_costs(len(columns) - signed_columns)
        self.free_steps = 0
        self.bottom = 1
        # Each number in a side, and the bottom, is below 2 to the height, up or down.
        self.height = max([abs(number) for number in goal]).bit_length() + SPARE_BITS
        self.width = 2 * self.height
        self.sides = {self.size: packed(goal, self.width)}

    def listed(self, side):
        """The numbers of a side."""
        return unpacked_signed(side, self.size, self.width)

    def asked(self, source, place):
        """How much a unit at the source, or the whole goal, is of what stands at the place."""
        if source in self.sides:
            return signed_slot(self.sides[source], place, self.width)
        return self.bottom if source == place else 0

    def widen(self, width):
        """Makes room in all sides for numbers of this width, their signs counted."""
        if width > self.width:
            wider = width + width // 4 + SPARE_BITS
            self.sides = {source: packed(self.listed(side), wider) for source, side in self.sides.items()}
            self.width = wider

    def see_to_height(self):
        """Finds the height anew where a number has grown above it."""
        room = in_every_slot(1 << self.height, self.size, self.width)
        above = in_every_slot((1 << self.width) - (2 << self.height), self.size, self.width)
        if any([(side + room) & above for side in self.sides.values()]) or self.bottom >> self.height:
            tallest = max([abs(number) for side in self.sides.values() for number in self.listed(side)])
            self.height = max(tallest, self.bottom).bit_length() + SPARE_BITS

    def unit_parts(self, place):
        """How much a unit at each place is of what stands at this one."""
        return [self.asked(source, place) for source in range(self.size)]

    def parts(self, place):
        """How much each column is of what stands at this place."""
        row = self.unit_parts(place)
        return [sum([number * row[source] for source, number in column]) for column in self.columns]

    def rates(self, at):
        """How much the column of this number is of what stands at each place."""
        column = self.columns[at]
        self.widen(self.height + sum([abs(number) for source, number in column]).bit_length() + 1)
        lacking = [0] * self.size
        side = 0
        for source, number in column:
            if source in self.sides:
                side += number * self.sides[source]
            else:
                lacking[source] = number
        return self.listed(side + self.bottom * packed(lacking, self.width))

    def amount(self, place):
        """How much stands at the place."""
        return self.asked(self.size, place)

    def leaving(self):
        """The place at which something must go out, None where all stands well."""
        amounts = self.listed(self.sides[self.size])
        wrong = [place for place, amount in enumerate(amounts) if amount and self.standing[place] is None]
        if wrong:
            return self.worst(wrong, amounts)
        wrong = [place for place, amount in enumerate(amounts)
                 if amount < 0 and self.standing[place] >= self.signed_columns]
        if not wrong:
            return None
        if self.free_steps > MOST_FREE_STEPS:
            return min(wrong, key=lambda place: self.standing[place])
        return self.worst(wrong, amounts)

    def worst(self, places, amounts):
        """That of the places at which most stands for its row's length, of those at which most does at all."""
        best, most, length = None, 0, 1
        for place in sorted(places, key=lambda one: -abs(amounts[one]))[:LOOKED_AT]:
            square = sum([number * number for number in self.unit_parts(place)])
            if amounts[place] * amounts[place] * length > most * square:
                best, most, length = place, amounts[place] * amounts[place], square
        return best

    def entering(self, place, parts):
        """The number of the column that comes in for what stands at the place, None where there is none."""
        sign = 1 if self.amount(place) < 0 else -1
        best, span = None, 1
        for at, part in enumerate(parts):
            if sign * part < 0 and (best is None or self.costs[at] * span < self.costs[best] * abs(part)):
                best, span = at, abs(part)
        return best

    def swap(self, place, at, parts):
        """Lets the column of this number stand at the place, in the stead of what stood there."""
        rates = self.rates(at)
        pivot = rates[place]
        sign = 1 if pivot > 0 else -1
        # Only what is divided by the bottom in the end must have room, and that grows by no more than this.
        growth = max([abs(rate) for rate in rates]).bit_length() - self.bottom.bit_length() + 2
        self.widen(self.height + max(growth, 1) + 1)
        if self.standing[place] is None:
            self.sides[place] = self.bottom << (self.width * place)
        turned = packed(rates, self.width) - (self.bottom << (self.width * place))
        for source, side in list(self.sides.items()):
            self.sides[source] = sign * (pivot * side - self.asked(source, place) * turned) // self.bottom
        paid = self.costs[at]
        self.costs = [sign * (pivot * cost - paid * part) // self.bottom for cost, part in zip(self.costs, parts)]
        self.free_steps = 0 if paid else self.free_steps + 1
        self.bottom = abs(pivot)
        self.standing[place] = at
        self.see_to_height()

    def take_signed(self):
        """Lets each column that may be below nought stand somewhere, but those that others make up."""
        unpaid = [0] * len(self.columns)
        for at in range(self.signed_columns):
            rates = self.rates(at)
            lacks = [place for place, rate in enumerate(rates) if rate and self.standing[place] is None]
            if lacks:
                # Where nothing lacks, and by a small number: so little changes, and numbers stay small.
                self.swap(min(lacks, key=lambda one: (self.amount(one) != 0, abs(rates[one]))), at, unpaid)
        self.free_steps = 0


def settled(columns, goal, signed_columns):
    """A tuple of a basis and None, where all stands well, or else the place at which no column can come in."""
    basis = Basis(columns, goal, signed_columns)
    basis.take_signed()
    place = basis.leaving()
    while place is not None:
        parts = basis.parts(place)
        at = basis.entering(place, parts)
        if at is None:
            return (basis, place)
        basis.swap(place, at, parts)
        place = basis.leaving()
    return (basis, None)
