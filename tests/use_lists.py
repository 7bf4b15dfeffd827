"""Small houses with all of their uses listed, and what the document says of them, by plain words and fractions."""

import itertools
from fractions import Fraction

from whoseuse.amounts import Amount
from whoseuse.houses import House


def fraction(amount):
    """An Amount or an integer as a Fraction."""
    return Fraction(amount.number, amount.under) if isinstance(amount, Amount) else Fraction(amount)


def made(told):
    return Amount(told.numerator, told.denominator)


def all_uses(house):
    rows = [list(itertools.product(range(room + 1), repeat=house.days)) for name, room, inner in house.flats]
    return list(itertools.product(*rows))


def counter(house, use, meter, morning):
    """What the meter shows on this morning, if this is the use."""
    return sum(sum(row[:morning]) for row, (name, room, inner) in zip(use, house.flats) if meter in ('main', name))


def shows_rows(house, use, rows):
    """Whether all meters show just these numbers, if this is the use."""
    return all(counter(house, use, meter, morning) == number for meter, morning, number in rows)


def worth(weighing, use):
    """The worth, by fractions."""
    cells = [fraction(weight) * units for weights, row in zip(weighing.rows, use) for weight, units in zip(weights, row)]
    return sum(cells, fraction(weighing.constant))


def ends_by(numbers, weighing, paper):
    """(floor, ceiling) by this paper, cell by cell, as the document has them, by fractions."""
    amounts = [fraction(amount) for amount in paper]
    low = fraction(weighing.constant)
    for amount, stretch in zip(amounts, numbers.stretches):
        low += amount * stretch[3]
    high = low
    for (name, room, inner), weights in zip(numbers.house.flats, weighing.rows):
        for day, weight in enumerate(weights):
            rest = fraction(weight)
            for amount, (meter, first, behind, units) in zip(amounts, numbers.stretches):
                if meter in ('main', name) and first <= day < behind:
                    rest -= amount
            low += min(rest, 0) * room
            high += max(rest, 0) * room
    return low, high


def random_house(chance, days, places, rooms):
    kinds = [chance.choice(('flat', 'flat', 'bare')) for _ in range(places - 1)]
    kinds.insert(chance.randrange(places), 'flat')
    # Names on either side of main, and no sequence of their own: rows stand otherwise than stretches.
    names = chance.sample(('a', 'b', 'n', 'zz', 'left'), places)
    lines = [f'days {days}'] + [f'{kind} {name} {chance.randint(1, rooms)}' for kind, name in zip(kinds, names)]
    return House('\n'.join(lines))


def random_use(chance, house):
    return tuple(tuple(chance.randint(0, room) for _ in range(house.days)) for name, room, inner in house.flats)


def random_rows(chance, house, use, density, lies=0):
    """Some of the rows that this use shows, so many of them changed."""
    rows = [[meter, morning, counter(house, use, meter, morning)]
            for meter in sorted(house.meters) for morning in range(1, house.days + 1) if chance.random() < density]
    for _ in range(lies if rows else 0):
        row = chance.choice(rows)
        row[2] = max(0, row[2] + chance.choice((-3, -2, -1, 1, 2, 3, 500, 9000)))
    return tuple((meter, morning, min(number, 9999)) for meter, morning, number in rows)


def random_weights(chance, house, some):
    return tuple(tuple(some(chance) for _ in range(house.days)) for flat in house.flats)


def small_whole(chance):
    return chance.randint(-3, 3)


def small_amount(chance):
    return chance.choice((chance.randint(-4, 4), Amount(chance.randint(-9, 9), chance.randint(1, 6)), 0))


def great_amount(chance):
    return Amount(chance.randint(-999999999, 999999999), chance.randint(1, 999999999))
