"""Values of all kinds, to hand in where something else is asked for."""

from whoseuse.amounts import Amount
from whoseuse.books import Book
from whoseuse.desk import Desk
from whoseuse.errors import BadDay
from whoseuse.houses import House
from whoseuse.numbers import Numbers
from whoseuse.rules import Rule
from whoseuse.weighings import Weighing

SMALL = 'days 1\nflat a 1'
LITTLE = 'every 1\nbehind 1\nlate now\nblock days\nrest house'


def odd_values():
    """One or more of each kind of value that the document counts as any value."""
    return [
        None, True, False, '', 'a', 'main', '1', '\n', (), (1,), (1, 2), ('a', 0), [], [1], ['a'],
        [(1,)], {}, {'a': 1}, {1: ()}, ((((),),),), [[[]]], Amount(0), Amount(1), Amount(1, 2),
        (Amount(1),), [Amount(1)], House(SMALL), (House(SMALL),), {'a': House(SMALL)},
        Weighing(House(SMALL)), (Weighing(House(SMALL), 1),), Numbers(House(SMALL)), [Numbers(House(SMALL))],
        ('a', True), ('a', Amount(1)), (True, 1), ('main', 1, 1), ['a', 1], [[1]], BadDay(1), deep(),
        Book(House(SMALL)), (Book(House(SMALL)), 1), Rule(LITTLE), [Rule(LITTLE)], {'rule': Rule(LITTLE)},
        Desk(SMALL, LITTLE),
    ]


def deep():
    """A value that is nested 20 deep."""
    value = ('a', 1)
    for at in range(18):
        value = [value] if at in (3, 9) else {'a': value} if at == 12 else (value,)
    return value


def without(values, kinds):
    """Those of the values that are no objects of these kinds; a bool is no integer here."""
    return [value for value in values
            if isinstance(value, bool) or not isinstance(value, kinds)]
