import importlib
import inspect
import unittest

from tests.samples import LITTLE
from whoseuse.amounts import Amount
from whoseuse.books import Book
from whoseuse.desk import Desk
from whoseuse.houses import House
from whoseuse.numbers import Numbers
from whoseuse.rules import Rule
from whoseuse.weighings import Weighing

# class: its parameters, and the parameters of each method that the interface lists
CLASSES = {
    ('amounts', 'Amount'): (['number', 'under'], {'of': ['text']}),
    ('houses', 'House'): (['text'], {'lives': ['self', 'flat', 'day'], 'room': ['self', 'flat'],
                                     'price': ['self', 'day'], 'is_use': ['self', 'value']}),
    ('weighings', 'Weighing'): (['house', 'constant', 'rows'], {'__call__': ['self', 'use']}),
    ('numbers', 'Numbers'): (['house', 'rows'], {'put': ['self', 'meter', 'morning', 'number'],
                                                 'only': ['self', 'places'], 'without': ['self', 'places']}),
    ('books', 'Book'): (['house'], {'go': ['self', 'morning'], 'drop': ['self', 'meter', 'morning'],
                                    'expect': ['self', 'meter', 'morning'], 'undo': ['self'], 'redo': ['self'],
                                    'stood': ['self', 'morning'], 'copy': ['self'], 'trial': ['self', 'keep'],
                                    'tried': ['self', 'look', 'keep'], 'of': ['text']}),
    ('rules', 'Rule'): (['text'], {'runs': ['self', 'house']}),
    ('desk', 'Desk'): (['text', 'rule'], {'say': ['self', 'line']}),
}

# function: its parameters
FUNCTIONS = {
    ('weighings', 'use_of'): ['house', 'person'],
    ('weighings', 'cost_of'): ['house', 'person'],
    ('weighings', 'shown'): ['house', 'meter', 'morning'],
    ('ends', 'floor'): ['numbers', 'weighing', 'paper'],
    ('ends', 'ceiling'): ['numbers', 'weighing', 'paper'],
    ('ends', 'fits'): ['numbers', 'use'],
    ('ends', 'fitting'): ['numbers'],
    ('ends', 'least'): ['numbers', 'weighing'],
    ('ends', 'greatest'): ['numbers', 'weighing'],
    ('ends', 'shows_fitting'): ['numbers', 'value'],
    ('ends', 'shows_least'): ['numbers', 'weighing', 'value'],
    ('ends', 'shows_greatest'): ['numbers', 'weighing', 'value'],
    ('doubts', 'doubted'): ['numbers'],
    ('doubts', 'needless'): ['numbers', 'meter', 'morning'],
    ('doubts', 'shows_doubted'): ['numbers', 'value'],
    ('doubts', 'shows_needless'): ['numbers', 'meter', 'morning', 'value'],
    ('bills', 'billed'): ['book', 'rule', 'run'],
    ('bills', 'account'): ['book', 'rule', 'person'],
    ('paying', 'off'): ['book', 'rule', 'person'],
    ('paying', 'pays'): ['book', 'rule', 'payer', 'user'],
    ('paying', 'fair'): ['book', 'rule', 'amount'],
    ('paying', 'alike'): ['book', 'one', 'other'],
    ('paying', 'shows_fair'): ['book', 'rule', 'amount', 'value'],
    ('paying', 'shows_alike'): ['book', 'one', 'other', 'value'],
    ('settling', 'settled'): ['numbers', 'weighing', 'amount', 'readings'],
    ('settling', 'fewest'): ['numbers', 'weighing', 'amount', 'offers'],
    ('settling', 'shows_settled'): ['numbers', 'weighing', 'amount', 'readings', 'value'],
    ('settling', 'shows_fewest'): ['numbers', 'weighing', 'amount', 'offers', 'value'],
}


def parameters(function):
    return list(inspect.signature(function).parameters)


class Interface(unittest.TestCase):

    def test_classes_and_methods_stand_where_they_are_listed(self):
        for (file, name), (told, methods) in CLASSES.items():
            module = importlib.import_module(f'whoseuse.{file}')
            listed = vars(module)[name]
            self.assertEqual(listed.__module__, module.__name__)
            self.assertEqual(parameters(listed), told)
            for method, names in methods.items():
                self.assertIn(method, vars(listed))
                self.assertEqual(parameters(getattr(listed, method)), names)

    def test_functions_stand_where_they_are_listed(self):
        for (file, name), told in FUNCTIONS.items():
            module = importlib.import_module(f'whoseuse.{file}')
            listed = vars(module)[name]
            self.assertEqual(listed.__module__, module.__name__)
            self.assertEqual(parameters(listed), told)

    def test_defaults(self):
        self.assertEqual(Weighing.__init__.__defaults__, (0, None))
        self.assertEqual(Numbers.__init__.__defaults__, ((),))
        for method in (Book.trial, Book.tried):
            self.assertIs(inspect.signature(method).parameters['keep'].kind, inspect.Parameter.KEYWORD_ONLY)
            self.assertEqual(method.__kwdefaults__, {'keep': False})

    def test_operators_stand_in_the_classes_themselves(self):
        for name in ('eq', 'add', 'radd', 'sub', 'rsub', 'mul', 'rmul', 'neg', 'getitem', 'call'):
            self.assertIn(f'__{name}__', vars(Weighing))
        for name in ('eq', 'le', 'lt', 'ge', 'gt', 'getitem', 'contains', 'len'):
            self.assertIn(f'__{name}__', vars(Numbers))
        for name in ('eq', 'getitem', 'setitem', 'contains', 'len'):
            self.assertIn(f'__{name}__', vars(Book))
        self.assertIn('__eq__', vars(Rule))

    def test_of_is_static(self):
        for listed in (Amount, Book):
            self.assertIsInstance(vars(listed)['of'], staticmethod)

    def test_attributes_are_there_from_the_start(self):
        for name in ('number', 'under', 'text'):
            self.assertTrue(hasattr(Amount(3), name))
        for name in ('text', 'days', 'flats', 'meters', 'people'):
            self.assertTrue(hasattr(House('days 1\nflat a 1'), name))
        for name in ('house', 'constant', 'rows'):
            self.assertTrue(hasattr(Weighing(House('days 1\nflat a 1')), name))
        for name in ('house', 'rows', 'stretches'):
            self.assertTrue(hasattr(Numbers(House('days 1\nflat a 1')), name))
        for name in ('house', 'today', 'numbers', 'expected', 'told', 'journal'):
            self.assertTrue(hasattr(Book(House('days 1\nflat a 1')), name))
        for name in ('text', 'every', 'behind', 'late', 'block', 'rest'):
            self.assertTrue(hasattr(Rule(LITTLE), name))
        for name in ('book', 'rule'):
            self.assertTrue(hasattr(Desk('days 1\nflat a 1', LITTLE), name))


if __name__ == '__main__':
    unittest.main()
