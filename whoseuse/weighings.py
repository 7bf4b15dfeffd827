"""Weighings: sums of uses, each with a weight of its own."""

from whoseuse.amounts import Amount, as_amount, is_amount
from whoseuse.errors import BadMorning, BadUse, BadWeighing, NoCell, NoMeter, NoPerson, OtherHouse
from whoseuse.meters import counted, is_meter, is_morning
from whoseuse.plain import is_whole


class Weighing:
    """A constant, and a weight for each cell of a house."""

    def __init__(self, house, constant=0, rows=None):
        if not is_amount(constant) or not (rows is None or are_weights(house, rows)):
            raise BadWeighing((constant, rows))
        self._house = house
        self._constant = as_amount(constant)
        self._rows = no_weights(house) if rows is None else as_amounts(rows)

    @property
    def house(self):
        """The house whose cells are weighed."""
        return self._house

    @property
    def constant(self):
        """What the worth of every use begins with."""
        return self._constant

    @property
    def rows(self):
        """For each place, the weights of its days."""
        return self._rows

    def __getitem__(self, at):
        place = place_of(self._house, at)
        if place < 0:
            raise NoCell(at)
        return self._rows[place][at[1]]

    def __iter__(self):
        raise TypeError("a weighing is asked cell by cell")

    def __call__(self, use):
        if not self._house.is_use(use):
            raise BadUse(use)
        worth = self._constant
        for weights, row in zip(self._rows, use):
            for weight, units in zip(weights, row):
                worth = worth + weight * units
        return worth

    def __eq__(self, other):
        if not isinstance(other, Weighing) or not self._house == other._house:
            return False
        return self._constant == other._constant and self._rows == other._rows

    def __neg__(self):
        return self * -1

    def __add__(self, other):
        if isinstance(other, Weighing):
            self._check(other)
            return Weighing(self._house, self._constant + other._constant, sums(self._rows, other._rows))
        if not is_amount(other):
            return NotImplemented
        return Weighing(self._house, self._constant + other, self._rows)

    def __radd__(self, other):
        if not is_amount(other):
            return NotImplemented
        return self + other

    def __sub__(self, other):
        if isinstance(other, Weighing):
            # The error tells the right operand itself, and not what is added in its stead.
            self._check(other)
        elif not is_amount(other):
            return NotImplemented
        return self + -other

    def __rsub__(self, other):
        if not is_amount(other):
            return NotImplemented
        return -self + other

    def __mul__(self, other):
        if not is_amount(other):
            return NotImplemented
        rows = tuple([tuple([weight * other for weight in row]) for row in self._rows])
        return Weighing(self._house, self._constant * other, rows)

    def __rmul__(self, other):
        if not is_amount(other):
            return NotImplemented
        return self * other

    def _check(self, other):
        if not self._house == other._house:
            raise OtherHouse(other)


def use_of(house, person):
    """What this person uses."""
    return lived(house, person, [1] * house.days)


def cost_of(house, person):
    """What this person's use costs, each unit at the price of its day."""
    return lived(house, person, [house.price(day) for day in range(house.days)])


def shown(house, meter, morning):
    """What the meter counted when this morning comes."""
    if not is_meter(house, meter):
        raise NoMeter(meter)
    if not is_morning(house, morning):
        raise BadMorning(morning)
    full = (1,) * morning + (0,) * (house.days - morning)
    places = counted(house, meter)
    rows = [full if at in places else (0,) * house.days for at in range(len(house.flats))]
    return Weighing(house, 0, tuple(rows))


def lived(house, person, weights):
    """The weighing with the weight of the day in each cell in which this person lives."""
    if person not in house.people:
        raise NoPerson(person)
    rows = []
    for name, room, inner in house.flats:
        row = [weight if house.lives(name, day) == person else 0 for day, weight in enumerate(weights)]
        rows.append(tuple(row))
    return Weighing(house, 0, tuple(rows))


def are_weights(house, rows):
    """Whether rows is a tuple with, for each place, a tuple with an amount for each day."""
    if not isinstance(rows, tuple) or len(rows) != len(house.flats):
        return False
    return all([is_weight_row(house, row) for row in rows])


def is_weight_row(house, row):
    if not isinstance(row, tuple) or len(row) != house.days:
        return False
    return all([is_amount(weight) for weight in row])


def as_amounts(rows):
    return tuple([tuple([as_amount(weight) for weight in row]) for row in rows])


def no_weights(house):
    return ((Amount(0),) * house.days,) * len(house.flats)


def sums(rows, others):
    """The rows of weights that have the sum of both in each cell."""
    return tuple([row_sum(one, other) for one, other in zip(rows, others)])


def row_sum(row, added):
    return tuple([one + other for one, other in zip(row, added)])


def place_of(house, at):
    """Where the place of this cell stands among those of the house; -1 if at is no cell."""
    if not isinstance(at, tuple) or len(at) != 2:
        return -1
    names = [name for name, room, inner in house.flats]
    flat, day = at
    if flat not in names or not is_whole(day) or not 0 <= day < house.days:
        return -1
    return names.index(flat)
