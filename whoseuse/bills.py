"""Bills: what a rule makes of a book, as weighings."""

from whoseuse.amounts import Amount
from whoseuse.errors import BadRun, NoPerson
from whoseuse.houses import NOBODY
from whoseuse.plain import ascending, is_whole
from whoseuse.reckoning import REST, reckoned
from whoseuse.terms import as_weighing, joined


def billed(book, rule, run):
    """The tuple of (person, Weighing) of what is charged on this run."""
    if not is_whole(run) or run not in rule.runs(book.house):
        raise BadRun(run)
    charges = charged(book, rule, run)
    return tuple([(person, as_weighing(book.house, charges[person])) for person in book.house.people])


def account(book, rule, person):
    """The sum of what is charged to this person on all runs."""
    if person not in book.house.people:
        raise NoPerson(person)
    total = {}
    for run in rule.runs(book.house):
        total = joined(total, charged(book, rule, run)[person], 1)
    return as_weighing(book.house, total)


def charged(book, rule, run):
    """For each person, what is charged on this run, as terms."""
    house = book.house
    charges = {person: {} for person in house.people}
    for place, payday, terms in laid(book, rule, run):
        payers = payers_of(rule, house, place, payday)
        for payer in payers:
            charges[payer] = joined(charges[payer], terms, Amount(house.price(payday), len(payers)))
    return charges


def laid(book, rule, run):
    """What is laid on this run: (flat or rest, payday, terms)."""
    ahead = run_ahead(rule, book.house, run)
    now, elder = reckoned(book, rule, run), reckoned(book, rule, ahead)
    found = []
    for place in now:
        for day in range(run):
            terms = joined(now[place][day], elder[place][day], -1) if day < ahead else now[place][day]
            found.append((place, payday_of(rule, book.house, run, day), terms))
    return found


def run_ahead(rule, house, run):
    """The run ahead of this one; 0 if there is none."""
    ahead = 0
    for other in rule.runs(house):
        if other < run:
            ahead = other
    return ahead


def payday_of(rule, house, run, day):
    """On which day it is laid what is reckoned of this day on the run."""
    first = [other for other in rule.runs(house) if other > day][0]
    if first < run and rule.late == "now":
        return run - 1
    return day if rule.block == "days" else first - 1


def payers_of(rule, house, place, payday):
    """Those who pay, in equal parts, what is laid of the place on this payday."""
    if not place == REST:
        return [house.lives(place, payday)]
    if rule.rest == "house":
        return [NOBODY]
    people = [house.lives(name, payday) for name, room, inner in house.flats]
    if rule.rest == "places":
        return people
    heads = ascending([person for person in people if not person == NOBODY])
    return list(heads) if len(heads) > 0 else [NOBODY]
