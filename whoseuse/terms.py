"""Terms: sums of known numbers, each with a factor of its own, as dicts.

The factor of a number stands under (meter, morning), what is constant under ().
"""

from whoseuse.meters import MAIN
from whoseuse.weighings import Weighing

CONSTANT = ()


def joined(one, other, times):
    """One sum, and so many times the other one."""
    found = {key: one[key] for key in one}
    for key in other:
        found[key] = found.get(key, 0) + other[key] * times
    return found


def as_weighing(house, terms):
    """The sum, with what each number counts in its stead."""
    rows = [weights(house, terms, name) for name, room, inner in house.flats]
    return Weighing(house, terms.get(CONSTANT, 0), tuple(rows))


def weights(house, terms, name):
    """The weights of the days of this place: each day is counted by the numbers of all later mornings."""
    row, weight = [], 0
    for morning in range(house.days, 0, -1):
        weight = weight + terms.get((MAIN, morning), 0) + terms.get((name, morning), 0)
        row.append(weight)
    return tuple(row[::-1])
