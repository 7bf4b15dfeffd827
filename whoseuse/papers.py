"""Papers: one amount for each stretch, from which anybody reckons a floor and a ceiling."""

from whoseuse.amounts import is_amount
from whoseuse.meters import MAIN, counted


def is_paper(numbers, value):
    """Whether value is a tuple with an amount for each stretch."""
    if not isinstance(value, tuple) or len(value) != len(numbers.stretches):
        return False
    return all([is_amount(amount) for amount in value])


def floor_by(numbers, weighing, paper):
    """What the worth of no use that fits is below, by this paper."""
    worth = weighing.constant
    for amount, (meter, first, behind, units) in zip(paper, numbers.stretches):
        worth = worth + amount * units
    amounts, weights = (0,) + paper, [weight for row in weighing.rows for weight in row]
    for (room, inner, main), weight in zip(cells(numbers), weights):
        rest = weight - amounts[inner] - amounts[main]
        if rest < 0:
            worth = worth + rest * room
    return worth


def ceiling_by(numbers, weighing, paper):
    """What the worth of no use that fits is above, by this paper."""
    return -floor_by(numbers, -weighing, opposite(paper))


def opposite(paper):
    return tuple([-amount for amount in paper])


def cells(numbers):
    """Of each cell, place by place, (room, inner, main): the stretches of its meters that cover it.

    They are counted from 1; 0 stands where there is none.
    """
    inner, main = covering(numbers, False), covering(numbers, True)
    found = []
    for at, (name, room, metered) in enumerate(numbers.house.flats):
        for day in range(numbers.house.days):
            found.append((room, inner[at][day], main[at][day]))
    return found


def covering(numbers, by_main):
    """For each place, and each day, which stretch of the main meter, or of an inner one, covers it."""
    house = numbers.house
    rows = [[0] * house.days for flat in house.flats]
    for at, (meter, first, behind, units) in enumerate(numbers.stretches, start=1):
        if (meter == MAIN) == by_main:
            for place in counted(house, meter):
                for day in range(first, behind):
                    rows[place][day] = at
    return rows
