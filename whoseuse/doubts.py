"""Doubts: which numbers cannot all be true, and which tell nothing that the others do not."""

from whoseuse.errors import NoNumber, TooMany
from whoseuse.ends import shows_none
from whoseuse.numbers import are_places
from whoseuse.papers import ceiling_by, floor_by, is_paper, opposite
from whoseuse.plain import choices, climbs
from whoseuse.plans import any_fit, cheapest, check_fits, is_fit, lot_of, paper_against
from whoseuse.weighings import shown

MOST = 8


def doubted(numbers):
    """(places, use, lots): the fewest rows without which some use fits, and what shows that no fewer do."""
    check_few(numbers)
    lots = []
    for places in suspects(numbers):
        if not misses_one(places, lots):
            kept = numbers.without(places)
            use = any_fit(kept)
            if use is not None:
                return places, use, tuple([(lot, paper_against(numbers.only(lot))) for lot in lots])
            # No lot so far is without all of these places: so this one is a new one.
            lots = put_in(lots, lot_of(kept))


def needless(numbers, meter, morning):
    """("follows", paper, other) if the others tell this number, otherwise ("open", use, other)."""
    check_row(numbers, meter, morning)
    check_fits(numbers)
    others, weighing = numbers.without(((meter, morning),)), shown(numbers.house, meter, morning)
    use, paper = cheapest(others, weighing)
    other, against = cheapest(others, -weighing)
    if weighing(use) == weighing(other):
        return "follows", paper, opposite(against)
    return "open", use, other


def shows_doubted(numbers, value):
    """Whether value is a right result of doubted."""
    check_few(numbers)
    if not isinstance(value, tuple) or len(value) != 3:
        return False
    places, use, lots = value
    if not are_places(numbers, places) or not is_fit(numbers.without(places), use):
        return False
    if not are_lots(numbers, lots):
        return False
    some = suspects(numbers)
    bare = [lot for lot, paper in lots]
    return all([misses_one(ahead, bare) for ahead in some[:some.index(places)]])


def shows_needless(numbers, meter, morning, value):
    """Whether value is a right result of needless."""
    check_row(numbers, meter, morning)
    check_fits(numbers)
    if not isinstance(value, tuple) or len(value) != 3:
        return False
    word, one, other = value
    others, weighing = numbers.without(((meter, morning),)), shown(numbers.house, meter, morning)
    if word == "follows":
        number = numbers[meter, morning]
        return is_paper(others, one) and floor_by(others, weighing, one) == number and (
            is_paper(others, other) and ceiling_by(others, weighing, other) == number)
    if word == "open":
        return is_fit(others, one) and is_fit(others, other) and not weighing(one) == weighing(other)
    return False


def check_few(numbers):
    if len(numbers) > MOST:
        raise TooMany(MOST)


def check_row(numbers, meter, morning):
    if (meter, morning) not in numbers:
        raise NoNumber((meter, morning))


def suspects(numbers):
    """All tuples of places of rows, by how many, then as tuples."""
    return choices([row[:2] for row in numbers.rows], MOST)


def misses_one(places, lots):
    """Whether there is a lot that has none of the places."""
    return any([all([place not in lot for place in places]) for lot in lots])


def put_in(lots, lot):
    """The ascending lots, and this one among them."""
    return [one for one in lots if one < lot] + [lot] + [one for one in lots if one > lot]


def are_lots(numbers, value):
    """Whether value is an ascending tuple of (lot, paper), the paper showing that no use fits the lot."""
    if not isinstance(value, tuple) or not all([is_lot(numbers, row) for row in value]):
        return False
    return climbs([lot for lot, paper in value])


def is_lot(numbers, row):
    if not isinstance(row, tuple) or len(row) != 2:
        return False
    return are_places(numbers, row[0]) and shows_none(numbers.only(row[0]), row[1])
