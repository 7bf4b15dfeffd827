"""Plans: uses that fit numbers, and what shows that there is no cheaper one, or none at all."""

from math import lcm

from whoseuse.amounts import Amount
from whoseuse.errors import Contrary
from whoseuse.meters import MAIN, counted
from whoseuse.nets import Net
from whoseuse.papers import cells
from whoseuse.weighings import Weighing


def cheapest(numbers, weighing):
    """(use, paper): a use that fits and has the least worth, and a paper by which this is the floor.

    Where no use fits, use is None, and paper one by which the floor of weights of 0 is above 0.
    """
    scale = common_under(weighing)
    net = Net(odds_of(numbers), edges_of(numbers, weighing, scale))
    use = as_use(numbers.house, net.along) if net.settle() else None
    return use, as_paper(numbers, net.heights(), scale)


def common_under(weighing):
    under = 1
    for row in weighing.rows:
        for weight in row:
            under = lcm(under, weight.under)
    return under


def odds_of(numbers):
    """What each node of the net has: what was counted leaves the inner meters and comes to the main one.

    Node 0 stands for all that no stretch counts, the others for the stretches.
    """
    odds = [0]
    for meter, first, behind, units in numbers.stretches:
        odd = -units if meter == MAIN else units
        odds.append(odd)
        odds[0] = odds[0] - odd
    return odds


def edges_of(numbers, weighing, scale):
    """An edge for each cell: so whole uses reach the ends."""
    weights = [weight for row in weighing.rows for weight in row]
    edges = []
    for (room, inner, main), weight in zip(cells(numbers), weights):
        edges.append((inner, main, room, weight.number * (scale // weight.under)))
    return edges


def as_use(house, along):
    days = house.days
    return tuple([tuple(along[at * days:at * days + days]) for at in range(len(house.flats))])


def as_paper(numbers, heights, scale):
    amounts = []
    for height, (meter, first, behind, units) in zip(heights[1:], numbers.stretches):
        rise = height - heights[0]
        amounts.append(Amount(rise if meter == MAIN else -rise, scale))
    return tuple(amounts)


def any_fit(numbers):
    """Any use that fits; None if there is none."""
    use, paper = cheapest(numbers, Weighing(numbers.house))
    return use


def paper_against(numbers):
    """Of numbers that no use fits, a paper by which the floor of weights of 0 is above 0."""
    use, paper = cheapest(numbers, Weighing(numbers.house))
    return paper


def is_fit(numbers, value):
    """Whether value is a use that fits."""
    if not numbers.house.is_use(value):
        return False
    return all([used(numbers.house, value, stretch) == stretch[3] for stretch in numbers.stretches])


def used(house, use, stretch):
    """What is used in the cells that the stretch covers."""
    meter, first, behind, units = stretch
    return sum([sum(use[at][first:behind]) for at in counted(house, meter)])


def check_fits(numbers):
    """Contrary, if no use fits."""
    if any_fit(numbers) is None:
        raise Contrary(lot_of(numbers))


def lot_of(numbers):
    """Places of rows that no use fits, and of which none can be left out."""
    lot = [row[:2] for row in numbers.rows]
    for place in list(lot):
        fewer = [other for other in lot if not other == place]
        if any_fit(numbers.only(tuple(fewer))) is None:
            lot = fewer
    return tuple(lot)


def others_of(lot):
    """For each of the lot, the places that are left without it."""
    return [lot[:at] + lot[at + 1:] for at in range(len(lot))]
