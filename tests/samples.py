"""Values of all kinds, to hand in where something else is asked for."""

from whoseuse.amounts import Amount
from whoseuse.houses import House

SMALL = 'days 1\nflat a 1'


def odd_values():
    """One or more of each kind of value that the document counts as any value."""
    return [
        None, True, False, '', 'a', 'main', '1', '\n', (), (1,), (1, 2), ('a', 0), [], [1], ['a'],
        [(1,)], {}, {'a': 1}, {1: ()}, ((((),),),), [[[]]], Amount(0), Amount(1), Amount(1, 2),
        (Amount(1),), [Amount(1)], House(SMALL), (House(SMALL),), {'a': House(SMALL)},
    ]


def without(values, kinds):
    """Those of the values that are no objects of these kinds; a bool is no integer here."""
    return [value for value in values
            if isinstance(value, bool) or not isinstance(value, kinds)]
