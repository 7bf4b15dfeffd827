import itertools
import unittest

from tests.samples import odd_values, without
from whoseuse.plain import ascending, choices, climbs, decimal, is_name, is_whole


class Plain(unittest.TestCase):

    def test_integers(self):
        for value in (0, 1, -1, 10 ** 400):
            self.assertIs(is_whole(value), True)
        for value in without(odd_values(), int):
            self.assertIs(is_whole(value), False)

    def test_names(self):
        for value in ('a', 'ann', 'abcdefgh', 'book'):
            self.assertIs(is_name(value), True)
        for value in without(odd_values(), str) + [0, 1, '', 'main', 'house', 'rest', 'abcdefghi', 'Ann', 'a b', 'a1']:
            self.assertIs(is_name(value), False)
        self.assertIs(is_name(['a']), False)
        self.assertIs(is_name(('a', 'b')), False)

    def test_decimal(self):
        for number in list(range(120)) + [999, 1000, 1234567890]:
            self.assertEqual(decimal(str(number)), number)
        for word in ('', '-', '-1', '+1', '00', '01', '007', ' 1', '1 ', '1\n', '1.0', 'x', '1x', '1_0'):
            self.assertEqual(decimal(word), -1)

    def test_ascending(self):
        self.assertEqual(ascending(['b', 'a', 'b', 'aa']), ('a', 'aa', 'b'))
        self.assertEqual(ascending([]), ())

    def test_climbs(self):
        for rows in ((), (('a', 1),), (('a', 1), ('a', 2), ('b', 1)), [('a', 9), ('b', 0)]):
            self.assertIs(climbs(rows), True)
        for rows in ((('a', 1), ('a', 1)), (('a', 2), ('a', 1)), (('a', 1), ('c', 1), ('b', 1))):
            self.assertIs(climbs(rows), False)

    def test_choices(self):
        for row in ((), (1,), ('a', 'b', 'c', 'd'), [('a', 1), ('a', 2), ('b', 1)]):
            for most in range(6):
                told = [some for many in range(most + 1) for some in itertools.combinations(row, many)]
                self.assertEqual(choices(row, most)[:len(told)], told)
                self.assertEqual(len(choices(row, most)), len(told))


if __name__ == '__main__':
    unittest.main()
