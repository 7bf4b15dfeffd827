"""What is reckoned on a run: lines through the known numbers of each meter, and beyond them."""

from whoseuse.amounts import Amount
from whoseuse.meters import MAIN
from whoseuse.terms import CONSTANT, joined

# No place is called so.
REST = "rest"


def reckoned(book, rule, run):
    """For each flat, and the rest, what is reckoned of each day ahead of the run, as terms."""
    house, known = book.house, known_on(book, run)
    rows = {}
    for name in house.meters[1:]:
        rows[name] = growths(points_of(known, name), rule.behind, run)
    points = points_of(known, MAIN)
    # Without a number of the main meter, nothing is reckoned of the rest.
    rest = growths(points, rule.behind, run) if len(points) > 1 else [{}] * run
    if len(points) > 1:
        for name in house.meters[1:]:
            rest = [joined(one, other, -1) for one, other in zip(rest, rows[name])]
    rows[REST] = rest
    return rows


def known_on(book, run):
    """The known numbers: (meter, morning, terms), those of each meter by their mornings."""
    if run <= book.today:
        return [(meter, morning, told_terms(book, meter, morning, number))
                for meter, morning, number in book.stood(run).rows]
    places = [row[:2] for row in book.numbers.rows] + [place for place in book.expected if place[1] <= run]
    return [(meter, morning, {(meter, morning): 1}) for meter, morning in places]


def told_terms(book, meter, morning, number):
    """What a number that was told counts, if it still stands; otherwise it is a constant."""
    if (meter, morning) in book and book[meter, morning] == number:
        return {(meter, morning): 1}
    return {CONSTANT: number}


def points_of(known, meter):
    """Where the line of this meter is known: (morning, terms)."""
    return [(0, {})] + [(morning, terms) for name, morning, terms in known if name == meter]


def growths(points, behind, run):
    """By how much the line through the points grows on each day ahead of the run."""
    days = []
    for (first, low), (end, high) in zip(points, points[1:]):
        days = days + [joined({}, joined(high, low, -1), Amount(1, end - first))] * (end - first)
    return days + [growth_behind(days, behind)] * (run - len(days))


def growth_behind(days, behind):
    """By how much a line grows on each day behind its last known number."""
    if behind == "nothing":
        return {}
    if behind == "before":
        return days[-1] if len(days) > 0 else {}
    return {CONSTANT: behind}
