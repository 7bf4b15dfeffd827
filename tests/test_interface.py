import importlib
import inspect
import unittest

from whoseuse.amounts import Amount
from whoseuse.houses import House

# class: its parameters, and the parameters of each method that the interface lists
CLASSES = {
    ('amounts', 'Amount'): (['number', 'under'], {'of': ['text']}),
    ('houses', 'House'): (['text'], {'lives': ['self', 'flat', 'day'], 'room': ['self', 'flat'],
                                     'price': ['self', 'day'], 'is_use': ['self', 'value']}),
}


def parameters(function):
    return list(inspect.signature(function).parameters)


class Interface(unittest.TestCase):

    def test_classes_and_methods_stand_where_they_are_listed(self):
        for (file, name), (told, methods) in CLASSES.items():
            module = importlib.import_module(f'whoseuse.{file}')
            listed = vars(module)[name]
            self.assertEqual(listed.__module__, module.__name__)
            self.assertEqual(parameters(listed), told)
            for method, names in methods.items():
                self.assertIn(method, vars(listed))
                self.assertEqual(parameters(getattr(listed, method)), names)

    def test_of_is_static(self):
        self.assertIsInstance(vars(Amount)['of'], staticmethod)

    def test_attributes_are_there_from_the_start(self):
        for name in ('number', 'under', 'text'):
            self.assertTrue(hasattr(Amount(3), name))
        for name in ('text', 'days', 'flats', 'meters', 'people'):
            self.assertTrue(hasattr(House('days 1\nflat a 1'), name))


if __name__ == '__main__':
    unittest.main()
