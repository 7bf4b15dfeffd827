"""Ends: how little and how much the worth of a weighing can be among all uses that fit."""

from whoseuse.amounts import is_amount
from whoseuse.errors import BadPaper, BadUse, BadWeighing, Contrary
from whoseuse.numbers import are_places
from whoseuse.papers import ceiling_by, floor_by, is_paper, opposite
from whoseuse.plans import any_fit, cheapest, check_fits, is_fit, lot_of, others_of, paper_against
from whoseuse.weighings import Weighing


def floor(numbers, weighing, paper):
    """What the worth of no use that fits is below, by this paper."""
    check_weighing(numbers, weighing)
    check_paper(numbers, paper)
    return floor_by(numbers, weighing, paper)


def ceiling(numbers, weighing, paper):
    """What the worth of no use that fits is above, by this paper."""
    check_weighing(numbers, weighing)
    check_paper(numbers, paper)
    return ceiling_by(numbers, weighing, paper)


def fits(numbers, use):
    """Whether the use comes to the units of each stretch."""
    if not numbers.house.is_use(use):
        raise BadUse(use)
    return is_fit(numbers, use)


def fitting(numbers):
    """("fits", use), or ("contrary", lot, paper, uses): what shows that no use fits."""
    use = any_fit(numbers)
    if use is not None:
        return "fits", use
    lot = lot_of(numbers)
    uses = [any_fit(numbers.only(others)) for others in others_of(lot)]
    return "contrary", lot, paper_against(numbers.only(lot)), tuple(uses)


def least(numbers, weighing):
    """(worth, use, paper): the least worth, a use that has it, and a paper by which it is the floor."""
    check_weighing(numbers, weighing)
    use, paper = cheapest(numbers, weighing)
    if use is None:
        raise Contrary(lot_of(numbers))
    return weighing(use), use, paper


def greatest(numbers, weighing):
    """(worth, use, paper): the greatest worth, a use that has it, and a paper by which it is the ceiling."""
    check_weighing(numbers, weighing)
    use, paper = cheapest(numbers, -weighing)
    if use is None:
        raise Contrary(lot_of(numbers))
    return weighing(use), use, opposite(paper)


def shows_fitting(numbers, value):
    """Whether value is a right result of fitting."""
    if not isinstance(value, tuple):
        return False
    if len(value) == 2 and value[0] == "fits":
        return is_fit(numbers, value[1])
    if len(value) == 4 and value[0] == "contrary":
        return shows_contrary(numbers, value[1], value[2], value[3])
    return False


def shows_least(numbers, weighing, value):
    """Whether value is a right result of least."""
    check_weighing(numbers, weighing)
    check_fits(numbers)
    if not is_end(numbers, weighing, value):
        return False
    worth, use, paper = value
    return floor_by(numbers, weighing, paper) == worth


def shows_greatest(numbers, weighing, value):
    """Whether value is a right result of greatest."""
    check_weighing(numbers, weighing)
    check_fits(numbers)
    if not is_end(numbers, weighing, value):
        return False
    worth, use, paper = value
    return ceiling_by(numbers, weighing, paper) == worth


def check_weighing(numbers, value):
    if not isinstance(value, Weighing) or not value.house == numbers.house:
        raise BadWeighing(value)


def check_paper(numbers, value):
    if not is_paper(numbers, value):
        raise BadPaper(value)


def is_end(numbers, weighing, value):
    """Whether value is (worth, use, paper), and the use fits and has this worth."""
    if not isinstance(value, tuple) or len(value) != 3:
        return False
    worth, use, paper = value
    if not is_amount(worth) or not is_fit(numbers, use) or not is_paper(numbers, paper):
        return False
    return weighing(use) == worth


def shows_contrary(numbers, lot, paper, uses):
    """Whether no use fits the lot, which the paper shows, and none can be left out, which the uses show."""
    if not are_places(numbers, lot) or not shows_none(numbers.only(lot), paper):
        return False
    if not isinstance(uses, tuple) or len(uses) != len(lot):
        return False
    return all([is_fit(numbers.only(others), use) for others, use in zip(others_of(lot), uses)])


def shows_none(numbers, paper):
    """Whether this is a paper by which the floor of weights of 0 is above 0, so that no use fits."""
    return is_paper(numbers, paper) and floor_by(numbers, Weighing(numbers.house), paper) > 0
