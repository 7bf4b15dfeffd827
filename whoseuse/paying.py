"""Paying: what people pay of each other's use, and whether rules are fair, or alike."""

from whoseuse.amounts import is_amount
from whoseuse.bills import account
from whoseuse.ends import greatest, least
from whoseuse.errors import BadAmount
from whoseuse.houses import NOBODY
from whoseuse.papers import ceiling_by, floor_by, is_paper
from whoseuse.plans import check_fits, is_fit
from whoseuse.weighings import Weighing, cost_of, use_of


def off(book, rule, person):
    """By how much this person pays too much."""
    return account(book, rule, person) - cost_of(book.house, person)


def pays(book, rule, payer, user):
    """What the payer pays of the user's use."""
    paid, used = account(book, rule, payer), use_of(book.house, user)
    rows = [tuple([weight * one for weight, one in zip(row, ones)]) for row, ones in zip(paid.rows, used.rows)]
    return Weighing(book.house, 0, tuple(rows))


def fair(book, rule, amount):
    """("fair", rows) if nobody but house pays more than the amount too much, or ("unfair", person, use)."""
    check_amount(amount)
    # There may be nobody but house, of whom nothing is asked.
    check_fits(book.numbers)
    rows = []
    for person in payers(book):
        worth, use, paper = greatest(book.numbers, off(book, rule, person))
        if worth > amount:
            return "unfair", person, use
        rows.append((person, paper))
    return "fair", tuple(rows)


def shows_fair(book, rule, amount, value):
    """Whether value is a right result of fair."""
    check_amount(amount)
    numbers, people = book.numbers, payers(book)
    check_fits(numbers)
    if not isinstance(value, tuple):
        return False
    if len(value) == 2 and value[0] == "fair":
        if not are_rows_of(numbers, people, value[1], 1):
            return False
        return all([ceiling_by(numbers, off(book, rule, person), paper) <= amount for person, paper in value[1]])
    if len(value) == 3 and value[0] == "unfair":
        person, use = value[1:]
        return person in people and is_fit(numbers, use) and off(book, rule, person)(use) > amount
    return False


def alike(book, one, other):
    """("alike", rows) if both rules come to the same accounts, or ("unlike", person, use)."""
    rows = []
    for person in book.house.people:
        parting = difference(book, one, other, person)
        low, high = least(book.numbers, parting), greatest(book.numbers, parting)
        for worth, use, paper in (low, high):
            if not worth == 0:
                return "unlike", person, use
        rows.append((person, low[2], high[2]))
    return "alike", tuple(rows)


def shows_alike(book, one, other, value):
    """Whether value is a right result of alike."""
    numbers, people = book.numbers, book.house.people
    check_fits(numbers)
    if not isinstance(value, tuple):
        return False
    if len(value) == 2 and value[0] == "alike":
        if not are_rows_of(numbers, people, value[1], 2):
            return False
        return all([is_nought(numbers, difference(book, one, other, person), low, high)
                    for person, low, high in value[1]])
    if len(value) == 3 and value[0] == "unlike":
        person, use = value[1:]
        return person in people and is_fit(numbers, use) and not difference(book, one, other, person)(use) == 0
    return False


def check_amount(value):
    if not is_amount(value):
        raise BadAmount(value)


def payers(book):
    """All people but house."""
    return [person for person in book.house.people if not person == NOBODY]


def difference(book, one, other, person):
    return account(book, one, person) - account(book, other, person)


def is_nought(numbers, weighing, low, high):
    """Whether the floor by one paper and the ceiling by the other one are 0."""
    return floor_by(numbers, weighing, low) == 0 and ceiling_by(numbers, weighing, high) == 0


def are_rows_of(numbers, people, value, many):
    """Whether value is a tuple with, for each of the people, a tuple of the person and so many papers."""
    if not isinstance(value, tuple) or len(value) != len(people):
        return False
    return all([is_row_of(numbers, person, row, many) for person, row in zip(people, value)])


def is_row_of(numbers, person, row, many):
    if not isinstance(row, tuple) or len(row) != many + 1 or not row[0] == person:
        return False
    return all([is_paper(numbers, paper) for paper in row[1:]])
