import importlib
import inspect
import unittest

from whoseuse.amounts import Amount
from whoseuse.houses import House
from whoseuse.numbers import Numbers
from whoseuse.weighings import Weighing

# class: its parameters, and the parameters of each method that the interface lists
CLASSES = {
    ('amounts', 'Amount'): (['number', 'under'], {'of': ['text']}),
    ('houses', 'House'): (['text'], {'lives': ['self', 'flat', 'day'], 'room': ['self', 'flat'],
                                     'price': ['self', 'day'], 'is_use': ['self', 'value']}),
    ('weighings', 'Weighing'): (['house', 'constant', 'rows'], {'__call__': ['self', 'use']}),
    ('numbers', 'Numbers'): (['house', 'rows'], {'put': ['self', 'meter', 'morning', 'number'],
                                                 'only': ['self', 'places'], 'without': ['self', 'places']}),
}

# function: its parameters
FUNCTIONS = {
    ('weighings', 'use_of'): ['house', 'person'],
    ('weighings', 'cost_of'): ['house', 'person'],
    ('weighings', 'shown'): ['house', 'meter', 'morning'],
    ('ends', 'floor'): ['numbers', 'weighing', 'paper'],
    ('ends', 'ceiling'): ['numbers', 'weighing', 'paper'],
    ('ends', 'fits'): ['numbers', 'use'],
    ('ends', 'fitting'): ['numbers'],
    ('ends', 'least'): ['numbers', 'weighing'],
    ('ends', 'greatest'): ['numbers', 'weighing'],
    ('ends', 'shows_fitting'): ['numbers', 'value'],
    ('ends', 'shows_least'): ['numbers', 'weighing', 'value'],
    ('ends', 'shows_greatest'): ['numbers', 'weighing', 'value'],
}


def parameters(function):
    return list(inspect.signature(function).parameters)


class Interface(unittest.TestCase):

    def test_classes_and_methods_stand_where_they_are_listed(self):
        for (file, name), (told, methods) in CLASSES.items():
            module = importlib.import_module(f'whoseuse.{file}')
            listed = vars(module)[name]
            self.assertEqual(listed.__module__, module.__name__)
            self.assertEqual(parameters(listed), told)
            for method, names in methods.items():
                self.assertIn(method, vars(listed))
                self.assertEqual(parameters(getattr(listed, method)), names)

    def test_functions_stand_where_they_are_listed(self):
        for (file, name), told in FUNCTIONS.items():
            module = importlib.import_module(f'whoseuse.{file}')
            listed = vars(module)[name]
            self.assertEqual(listed.__module__, module.__name__)
            self.assertEqual(parameters(listed), told)

    def test_defaults(self):
        self.assertEqual(Weighing.__init__.__defaults__, (0, None))
        self.assertEqual(Numbers.__init__.__defaults__, ((),))

    def test_operators_stand_in_the_classes_themselves(self):
        for name in ('eq', 'add', 'radd', 'sub', 'rsub', 'mul', 'rmul', 'neg', 'getitem', 'call'):
            self.assertIn(f'__{name}__', vars(Weighing))
        for name in ('eq', 'le', 'lt', 'ge', 'gt', 'getitem', 'contains', 'len'):
            self.assertIn(f'__{name}__', vars(Numbers))

    def test_of_is_static(self):
        self.assertIsInstance(vars(Amount)['of'], staticmethod)

    def test_attributes_are_there_from_the_start(self):
        for name in ('number', 'under', 'text'):
            self.assertTrue(hasattr(Amount(3), name))
        for name in ('text', 'days', 'flats', 'meters', 'people'):
            self.assertTrue(hasattr(House('days 1\nflat a 1'), name))
        for name in ('house', 'constant', 'rows'):
            self.assertTrue(hasattr(Weighing(House('days 1\nflat a 1')), name))
        for name in ('house', 'rows', 'stretches'):
            self.assertTrue(hasattr(Numbers(House('days 1\nflat a 1')), name))


if __name__ == '__main__':
    unittest.main()
