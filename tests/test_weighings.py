import operator
import random
import unittest

from tests.samples import SMALL, odd_values, without
from tests.use_lists import all_uses, counter, fraction, made, random_house, random_use, random_weights
from tests.use_lists import small_amount, worth
from whoseuse.amounts import Amount
from whoseuse.errors import BadMorning, BadUse, BadWeighing, NoCell, NoMeter, NoPerson, OtherHouse
from whoseuse.houses import House
from whoseuse.numbers import Numbers
from whoseuse.weighings import Weighing, cost_of, shown, use_of

PLAIN = 'days 4\nflat a 3\nbare stairs 2\nlives ann a 0 2\nlives bob a 2 4'
# The same house in all but the text.
OTHER = PLAIN.replace('\nlives ann', '\nprice 0 1\nlives ann')
PRICED = ('days 6\nbare cellar 4\nflat b 2\nflat ann 9\nprice 1 3\nprice 4 0\nlives ann b 0 3\nlives bob ann 1 6\n'
          'lives ann cellar 5 6\nlives bob b 3 5')
NOUGHT = Amount(0)


def all_amounts(rows):
    return all(isinstance(weight, Amount) for row in rows for weight in row)


class Made(unittest.TestCase):

    def test_all_told(self):
        house = House(SMALL)
        weighing = Weighing(house, 3, ((Amount(1, 2),),))
        self.assertIs(weighing.house, house)
        self.assertEqual(weighing.constant, Amount(3))
        self.assertIsInstance(weighing.constant, Amount)
        self.assertEqual(weighing.rows, ((Amount(1, 2),),))

    def test_rows_and_constant_left_out(self):
        weighing = Weighing(House(PLAIN))
        self.assertEqual(repr(weighing.constant), 'Amount(0)')
        self.assertEqual(repr(weighing.rows), repr(((NOUGHT,) * 4,) * 2))
        self.assertEqual(repr(Weighing(House(PLAIN), Amount(1, 3), None).rows), repr(((NOUGHT,) * 4,) * 2))
        self.assertEqual(Weighing(House(PRICED), 5).rows, ((0,) * 6,) * 3)

    def test_integers_and_amounts_mixed(self):
        rows = ((1, Amount(-1, 2), 0, Amount(3)), (-7, Amount(0), 5, Amount(9, 3)))
        weighing = Weighing(House(PLAIN), -2, rows)
        told = '((Amount(1), Amount(-1, 2), Amount(0), Amount(3)), (Amount(-7), Amount(0), Amount(5), Amount(3)))'
        self.assertEqual(repr(weighing.rows), told)
        self.assertEqual(repr(weighing.constant), 'Amount(-2)')

    def test_by_name(self):
        house = House(SMALL)
        weighing = Weighing(rows=((4,),), constant=2, house=house)
        self.assertEqual((weighing.constant, weighing.rows), (2, ((4,),)))
        self.assertEqual(Weighing(house=house, rows=((4,),)).constant, 0)

    def test_equal_calls(self):
        self.assertEqual(Weighing(House(PLAIN), 1), Weighing(House(PLAIN), 1))

    def test_properties_cannot_be_assigned(self):
        weighing = Weighing(House(SMALL))
        for name in ('house', 'constant', 'rows'):
            with self.assertRaises(AttributeError):
                setattr(weighing, name, 1)


class Refused(unittest.TestCase):

    def check(self, house, constant, rows):
        with self.assertRaises(BadWeighing) as caught:
            Weighing(house, constant, rows)
        value = caught.exception.value
        self.assertIs(value.__class__, tuple)
        self.assertEqual(len(value), 2)
        self.assertIs(value[0], constant)
        self.assertIs(value[1], rows)

    def test_constants(self):
        for value in without(odd_values(), (int, Amount)):
            self.check(House(SMALL), value, None)
            self.check(House(SMALL), value, ((1,),))
            self.check(House(SMALL), value, 'rows')

    def test_rows(self):
        for value in odd_values() + [0, 1, -1]:
            if value is not None:
                self.check(House(SMALL), 0, value)
                self.check(House(PLAIN), Amount(1, 2), value)

    def test_weights(self):
        for value in without(odd_values(), (int, Amount)):
            self.check(House(SMALL), 0, ((value,),))
            self.check(House(PLAIN), 0, ((0, 0, 0, 0), (0, 0, value, 0)))
            self.check(House(PLAIN), 0, ((value, 0, 0, 0), (0, 0, 0, 0)))
            self.check(House(PLAIN), 0, (value, (0, 0, 0, 0)))

    def test_forms(self):
        row = (0, 0, 0, 0)
        for rows in ((), (row,), (row, row, row), (row, row[:3]), (row + (0,), row), [row, row], (row, list(row)),
                     (list(row), row), ((), ()), (row, None), (None, None), {0: row, 1: row}, ((row, row),), row,
                     (('0', '0', '0', '0'), row), ('0000', '0000'), (row, row, ())):
            self.check(House(PLAIN), 0, rows)

    def test_the_default_is_told_too(self):
        with self.assertRaises(BadWeighing) as caught:
            Weighing(House(SMALL), 'x')
        self.assertEqual(caught.exception.value, ('x', None))
        with self.assertRaises(BadWeighing) as caught:
            Weighing(House(SMALL), rows=[])
        self.assertEqual(caught.exception.value, (0, []))


class Cells(unittest.TestCase):

    def test_each_weight(self):
        rows = ((1, 2, 3, 4), (5, 6, 7, Amount(8, 3)))
        weighing = Weighing(House(PLAIN), 99, rows)
        for at, name in enumerate(('a', 'stairs')):
            for day in range(4):
                self.assertIsInstance(weighing[name, day], Amount)
                self.assertEqual(weighing[name, day], rows[at][day])
        self.assertEqual(weighing[('a', 2)], 3)

    def test_other_values(self):
        weighing = Weighing(House(PLAIN), 0, ((1, 2, 3, 4), (5, 6, 7, 8)))
        values = odd_values() + [
            0, 1, 'a', ('a',), ('a', 4), ('a', -1), ('a', '0'), ('a', True), ('a', False), ('a', Amount(1)),
            ('a', None), ('a', 0, 0), ('main', 0), ('house', 0), ('b', 0), ('ann', 0), ('', 0), (0, 0), (None, 0),
            (['a'], 0), (('a',), 0), ('a', [0]), ('a', (0,)), ['a', 0], (0, 'a'), ({}, {}), (Amount(0), 0),
            ((), ()), (House(PLAIN), 0), (weighing, 0), ('stairs', 4), ('stairs', 99), ('stairs', -4),
        ]
        for value in values:
            # ('a', False) is equal to the cell ('a', 0), but is none.
            if repr(value) != repr(('a', 0)):
                with self.assertRaises(NoCell, msg=value) as caught:
                    weighing[value]
                self.assertIs(caught.exception.value, value)

    def test_nothing_is_put_or_gone_over(self):
        weighing = Weighing(House(PLAIN))
        with self.assertRaises(TypeError):
            weighing['a', 0] = 1
        with self.assertRaises(TypeError):
            del weighing['a', 0]
        with self.assertRaises(TypeError):
            ('a', 0) in weighing


class Worth(unittest.TestCase):

    def test_plain(self):
        weighing = Weighing(House(PLAIN), Amount(1, 2), ((1, 0, -2, 0), (0, 0, 0, Amount(1, 3))))
        for use, told in [(((0, 0, 0, 0), (0, 0, 0, 0)), Amount(1, 2)), (((3, 3, 3, 3), (2, 2, 2, 2)), Amount(-11, 6)),
                          (((3, 1, 0, 2), (0, 1, 2, 1)), Amount(23, 6))]:
            self.assertIsInstance(weighing(use), Amount)
            self.assertEqual(weighing(use), told)
        self.assertEqual(weighing(use=((1, 0, 0, 0), (0, 0, 0, 0))), Amount(3, 2))

    def test_rows_left_out(self):
        self.assertEqual(repr(Weighing(House(SMALL))(((1,),))), 'Amount(0)')
        self.assertEqual(repr(Weighing(House(SMALL), -4)(((1,),))), 'Amount(-4)')

    def test_as_fractions_are(self):
        chance = random.Random(61)
        for _ in range(60):
            house = random_house(chance, chance.randint(1, 14), chance.randint(1, 4), 9)
            weighing = Weighing(house, small_amount(chance), random_weights(chance, house, small_amount))
            use = random_use(chance, house)
            self.assertEqual(fraction(weighing(use)), worth(weighing, use))

    def test_no_uses(self):
        weighing = Weighing(House(PLAIN))
        row, stairs = (3, 1, 2, 2), (1, 1, 1, 1)
        for value in odd_values() + [
                0, (row,), (row, stairs, stairs), [row, stairs], (row, list(stairs)), (row, (1, 1, 1, 3)),
                (row, (1, 1, -1, 1)), (row, (1, 1, True, 1)), (row, (1, 1, Amount(1), 1)), (stairs, row),
                ((4, 1, 2, 2), stairs), (row, (1, 1, 1)), (row + (0,), stairs), (row, '1111')]:
            with self.assertRaises(BadUse, msg=value) as caught:
                weighing(value)
            self.assertIs(caught.exception.value, value)


class Sums(unittest.TestCase):

    def setUp(self):
        self.house = House(PLAIN)
        self.one = Weighing(self.house, 2, ((1, Amount(1, 2), 0, -3), (0, 0, 4, 0)))
        self.other = Weighing(House(PLAIN), Amount(-1, 3), ((1, 0, 2, 0), (Amount(5, 7), -1, 0, 0)))
        self.unlike = Weighing(House(OTHER), 1)

    def check(self, weighing, constant, rows):
        self.assertIsInstance(weighing, Weighing)
        self.assertEqual(weighing.house, self.house)
        self.assertIsInstance(weighing.constant, Amount)
        self.assertTrue(all_amounts(weighing.rows))
        self.assertEqual((weighing.constant, weighing.rows), (constant, rows))

    def test_weighings_of_equal_houses(self):
        self.check(self.one + self.other, Amount(5, 3), ((2, Amount(1, 2), 2, -3), (Amount(5, 7), -1, 4, 0)))
        self.check(self.one - self.other, Amount(7, 3), ((0, Amount(1, 2), -2, -3), (Amount(-5, 7), 1, 4, 0)))
        self.check(self.other - self.one, Amount(-7, 3), ((0, Amount(-1, 2), 2, 3), (Amount(5, 7), -1, -4, 0)))
        self.check(self.one - self.one, 0, ((0,) * 4,) * 2)

    def test_amounts_count_for_the_constant(self):
        rows, less = self.one.rows, tuple(tuple(-weight for weight in row) for row in self.one.rows)
        for amount in (0, 3, -2, Amount(1, 2), Amount(-4), Amount(0)):
            self.check(self.one + amount, 2 + amount, rows)
            self.check(amount + self.one, 2 + amount, rows)
            self.check(self.one - amount, 2 - amount, rows)
            self.check(amount - self.one, amount - 2, less)

    def test_products(self):
        for amount in (0, 1, 3, -2, Amount(1, 2), Amount(-4, 3)):
            rows = tuple(tuple(weight * amount for weight in row) for row in self.one.rows)
            self.check(self.one * amount, 2 * amount, rows)
            self.check(amount * self.one, 2 * amount, rows)

    def test_sign(self):
        self.check(-self.one, -2, ((-1, Amount(-1, 2), 0, 3), (0, 0, -4, 0)))
        self.assertEqual(-(-self.other), self.other)

    def test_worths_are_summed(self):
        for use in [((3, 1, 2, 2), (1, 1, 1, 1)), ((0, 0, 0, 3), (2, 0, 1, 2))]:
            one, other = self.one(use), self.other(use)
            self.assertEqual((self.one + self.other)(use), one + other)
            self.assertEqual((self.one - self.other)(use), one - other)
            self.assertEqual((3 - self.one * Amount(1, 2) + 1)(use), 4 - one // 2)
            self.assertEqual((-self.one)(use), -one)

    def test_sum_of_many(self):
        self.assertEqual(sum([self.one, self.other, 1]), self.one + self.other + 1)

    def test_other_houses(self):
        for act in (operator.add, operator.sub):
            for one, other in ((self.one, self.unlike), (self.unlike, self.one)):
                with self.assertRaises(OtherHouse) as caught:
                    act(one, other)
                self.assertIs(caught.exception.value, other)

    def test_operands_stay_as_they_are(self):
        one, rows = self.one, self.one.rows
        total = self.one
        total += self.other
        total -= 1
        total *= 2
        self.assertEqual(total, 2 * (self.one + self.other - 1))
        self.assertIs(self.one, one)
        self.check(self.one, 2, rows)

    def test_many_figures(self):
        great = self.one * Amount(10 ** 700 + 1, 3 ** 900)
        again = Weighing(self.house, great.constant, great.rows)
        self.assertEqual(again, great)
        self.assertEqual(great * great.constant * 0, Weighing(self.house))

    def test_no_operands(self):
        for value in without(odd_values(), (int, Amount, Weighing)):
            for act in (operator.add, operator.sub, operator.mul):
                with self.assertRaises(TypeError):
                    act(self.one, value)
                with self.assertRaises(TypeError):
                    act(value, self.one)

    def test_operators_that_are_not_described(self):
        for act in (operator.mul, operator.floordiv, operator.truediv, operator.mod, operator.pow, operator.and_,
                    operator.or_, operator.lt, operator.le, operator.gt, operator.ge):
            for other in (self.other, self.unlike):
                with self.assertRaises(TypeError):
                    act(self.one, other)
        for act in (operator.floordiv, operator.truediv, operator.mod, operator.lt, operator.ge, operator.pow):
            for other in (2, Amount(2)):
                with self.assertRaises(TypeError):
                    act(self.one, other)
                with self.assertRaises(TypeError):
                    act(other, self.one)
        for act in (operator.pos, abs, operator.invert, len, int):
            with self.assertRaises(TypeError):
                act(self.one)


class Equal(unittest.TestCase):

    def test_houses_made_apart(self):
        rows = ((1, 2, 3, 4), (5, 6, 7, Amount(8)))
        one, other = Weighing(House(PLAIN), 1, rows), Weighing(House(PLAIN), Amount(2, 2), rows)
        self.assertIs(one == other, True)
        self.assertIs(one != other, False)

    def test_unlike(self):
        rows = ((1, 2, 3, 4), (5, 6, 7, 8))
        one = Weighing(House(PLAIN), 1, rows)
        for other in (Weighing(House(PLAIN), 2, rows), Weighing(House(OTHER), 1, rows), Weighing(House(PLAIN), 1),
                      Weighing(House(PLAIN), 1, (rows[0], (5, 6, 7, 9))), Weighing(House(PLAIN), 1, rows[::-1])):
            self.assertIs(one == other, False)
            self.assertIs(one != other, True)

    def test_nothing_else(self):
        weighing = Weighing(House(PLAIN))
        for value in odd_values() + [0, weighing.rows, weighing.house, weighing.constant, (weighing,), [weighing]]:
            self.assertIs(weighing == value, False)
            self.assertIs(value == weighing, False)


class OfPeople(unittest.TestCase):

    def test_use(self):
        house = House(PRICED)
        self.assertEqual(use_of(house, 'ann').rows, ((0, 0, 0, 0, 0, 1), (1, 1, 1, 0, 0, 0), (0,) * 6))
        self.assertEqual(use_of(house, 'bob').rows, ((0,) * 6, (0, 0, 0, 1, 1, 0), (0, 1, 1, 1, 1, 1)))
        self.assertEqual(use_of(house, 'house').rows, ((1, 1, 1, 1, 1, 0), (0, 0, 0, 0, 0, 1), (1, 0, 0, 0, 0, 0)))

    def test_cost(self):
        house = House(PRICED)
        self.assertEqual(cost_of(house, 'ann').rows, ((0, 0, 0, 0, 0, 0), (1, 3, 3, 0, 0, 0), (0,) * 6))
        self.assertEqual(cost_of(house, 'bob').rows, ((0,) * 6, (0, 0, 0, 3, 0, 0), (0, 3, 3, 3, 0, 0)))
        self.assertEqual(cost_of(house, 'house').rows, ((1, 3, 3, 3, 0, 0), (0,) * 6, (1, 0, 0, 0, 0, 0)))

    def test_kinds(self):
        house = House(PRICED)
        for weighing in (use_of(house, 'ann'), cost_of(person='house', house=house), use_of(person='bob', house=house)):
            self.assertIsInstance(weighing, Weighing)
            self.assertIs(weighing.house, house)
            self.assertEqual(repr(weighing.constant), 'Amount(0)')
            self.assertTrue(all_amounts(weighing.rows))

    def test_all_people_use_all(self):
        house = House(PRICED)
        self.assertEqual(sum(use_of(house, person) for person in house.people), shown(house, 'main', 6))

    def test_nobody_lives_anywhere(self):
        self.assertEqual(use_of(House(SMALL), 'house').rows, ((1,),))
        house = House('days 2\nflat a 1\nlives ann a 0 2')
        self.assertEqual(use_of(house, 'house'), Weighing(house))

    def test_no_people(self):
        house = House(PRICED)
        for value in odd_values() + ['cellar', 'Ann', 'ann ', '', 'main', 'rest', 0, ('ann',), ['ann'], 'b']:
            for function in (use_of, cost_of):
                with self.assertRaises(NoPerson) as caught:
                    function(house, value)
                self.assertIs(caught.exception.value, value)


class Shown(unittest.TestCase):

    def test_plain(self):
        house = House(PRICED)
        self.assertEqual(shown(house, 'main', 2).rows, ((1, 1, 0, 0, 0, 0),) * 3)
        self.assertEqual(shown(house, 'ann', 5).rows, ((0,) * 6, (0,) * 6, (1, 1, 1, 1, 1, 0)))
        self.assertEqual(shown(house, 'b', 1).rows, ((0,) * 6, (1, 0, 0, 0, 0, 0), (0,) * 6))

    def test_first_and_last_morning(self):
        house = House(PRICED)
        for meter in house.meters:
            self.assertEqual(shown(house, meter, 0), Weighing(house))
        self.assertEqual(shown(house, 'main', 6).rows, ((1,) * 6,) * 3)
        self.assertEqual(shown(meter='b', morning=6, house=house).rows, ((0,) * 6, (1,) * 6, (0,) * 6))

    def test_what_is_counted(self):
        house = House('days 2\nbare n 1\nflat b 2\nflat zz 1')
        for use in all_uses(house):
            for meter in house.meters:
                for morning in range(3):
                    self.assertEqual(shown(house, meter, morning)(use), counter(house, use, meter, morning))

    def test_kinds(self):
        weighing = shown(House(PRICED), 'main', 3)
        self.assertEqual(repr(weighing.constant), 'Amount(0)')
        self.assertTrue(all_amounts(weighing.rows))

    def test_no_meters(self):
        house = House(PRICED)
        for value in odd_values() + ['cellar', 'house', 'bob', '', 'B', ('main',), ['main'], 0]:
            if value != 'main':
                for morning in (0, 3, 99, 'x'):
                    with self.assertRaises(NoMeter) as caught:
                        shown(house, value, morning)
                    self.assertIs(caught.exception.value, value)

    def test_no_mornings(self):
        house = House(PRICED)
        for value in without(odd_values(), int) + [-1, 7, 14, 10 ** 8, Amount(3), '3', (3,)]:
            for meter in ('main', 'b'):
                with self.assertRaises(BadMorning) as caught:
                    shown(house, meter, value)
                self.assertIs(caught.exception.value, value)


class BesideOthers(unittest.TestCase):

    def test_amounts_are_no_weighings(self):
        weighing = Weighing(House(SMALL), 1)
        for amount in (1, Amount(1)):
            self.assertIs(weighing == amount, False)
            self.assertIs(amount == weighing, False)

    def test_numbers_are_no_operands(self):
        house = House(SMALL)
        for act in (operator.add, operator.sub, operator.mul, operator.le):
            with self.assertRaises(TypeError):
                act(Weighing(house), Numbers(house))
            with self.assertRaises(TypeError):
                act(Numbers(house), Weighing(house))

    def test_made_again_from_fractions(self):
        house = House(SMALL)
        weighing = Weighing(house, made(fraction(Amount(2, 3))), ((made(fraction(-5)),),))
        self.assertEqual(weighing, Weighing(house, Amount(4, 6), ((-5,),)))


if __name__ == '__main__':
    unittest.main()
