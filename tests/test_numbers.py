import operator
import random
import unittest

from tests.samples import SMALL, odd_values, without
from tests.use_lists import random_house, random_rows, random_use
from whoseuse.amounts import Amount
from whoseuse.errors import BadMorning, BadNumber, BadNumbers, BadPlaces, NoMeter, NoNumber, OtherHouse
from whoseuse.houses import House
from whoseuse.numbers import Numbers

# Meters stand otherwise in the house than among the rows; the bare place has none.
PLAIN = 'days 6\nflat zz 5\nbare stairs 2\nflat a 9\nlives ann a 0 2'
# The same house in all but the text.
OTHER = PLAIN.replace('\nlives ann', '\nprice 0 1\nlives ann')
ROWS = (('a', 2, 7), ('a', 6, 20), ('main', 1, 9), ('main', 3, 4), ('zz', 4, 9999))
PLACES = tuple(row[:2] for row in ROWS)
NO_MORNINGS = [-1, 7, 14, 10 ** 8, Amount(2), '2', (2,)]
NO_NUMBERS = [-1, 10000, 10 ** 8, Amount(2), '2', (2,)]
NO_METERS = ['stairs', 'house', 'rest', 'ann', 'A', 'b', '', ('a',), ['a'], 0]


def plain():
    return Numbers(House(PLAIN), ROWS)


class Made(unittest.TestCase):

    def test_rows(self):
        house = House(PLAIN)
        numbers = Numbers(house, ROWS)
        self.assertIs(numbers.house, house)
        self.assertEqual(numbers.rows, ROWS)
        self.assertIs(numbers.rows.__class__, tuple)

    def test_no_rows(self):
        for numbers in (Numbers(House(PLAIN)), Numbers(House(PLAIN), ())):
            self.assertEqual((numbers.rows, numbers.stretches, len(numbers)), ((), (), 0))

    def test_by_name(self):
        self.assertEqual(Numbers(rows=ROWS, house=House(PLAIN)), plain())

    def test_edges_of_numbers_and_mornings(self):
        rows = (('a', 1, 0), ('a', 6, 9999), ('main', 6, 0), ('zz', 1, 9999))
        self.assertEqual(Numbers(House(PLAIN), rows).rows, rows)

    def test_properties_cannot_be_assigned(self):
        for name in ('house', 'rows', 'stretches'):
            with self.assertRaises(AttributeError):
                setattr(plain(), name, ())


class Refused(unittest.TestCase):

    def check(self, value):
        with self.assertRaises(BadNumbers, msg=value) as caught:
            Numbers(House(PLAIN), value)
        self.assertIs(caught.exception.value, value)

    def test_no_tuples(self):
        for value in odd_values() + [0, list(ROWS), {row: True for row in ROWS}, ROWS[0], 'aaa', {'a': 1}]:
            if value != ():
                self.check(value)

    def test_rows_of_other_forms(self):
        for row in odd_values() + [0, ('a', 1), ('a', 1, 1, 1), ['a', 1, 1], (1, 'a', 1), ('a',), 'a11', ()]:
            if row != ('main', 1, 1):
                self.check((row,))
                self.check((('a', 1, 1), row))
                self.check((row, ('zz', 1, 1)))

    def test_no_meters(self):
        for value in without(odd_values(), str) + NO_METERS:
            self.check(((value, 1, 1),))

    def test_no_mornings(self):
        for value in without(odd_values(), int) + [0] + NO_MORNINGS:
            self.check((('a', value, 1),))
            self.check((('a', 1, 1), ('main', value, 1)))

    def test_no_numbers(self):
        for value in without(odd_values(), int) + NO_NUMBERS:
            self.check((('a', 1, value),))
            self.check((('a', 1, 1), ('main', 1, value)))

    def test_rows_turned_about(self):
        for at in range(len(ROWS) - 1):
            self.check(ROWS[:at] + (ROWS[at + 1], ROWS[at]) + ROWS[at + 2:])
        self.check(ROWS[::-1])
        # The sequence of the house is not that of the rows.
        self.check((('main', 1, 1), ('a', 1, 1)))
        self.check((('zz', 1, 1), ('a', 1, 1)))

    def test_rows_doubled(self):
        for at in range(len(ROWS)):
            self.check(ROWS[:at] + (ROWS[at],) + ROWS[at:])
        self.check((('a', 1, 1), ('a', 1, 2)))
        self.check((('a', 1, 2), ('a', 1, 1)))
        self.check((('a', 1, 1), ('a', 2, 1), ('a', 2, 3)))

    def test_a_bare_place_has_no_meter(self):
        self.check((('stairs', 1, 1),))
        self.check(ROWS[:4] + (('stairs', 6, 1),) + ROWS[4:])


class Asked(unittest.TestCase):

    def test_numbers(self):
        numbers = plain()
        for meter, morning, number in ROWS:
            self.assertEqual(numbers[meter, morning], number)
            self.assertIs(numbers[meter, morning].__class__, int)
            self.assertIs((meter, morning) in numbers, True)
        self.assertEqual(len(numbers), 5)

    def test_morning_0(self):
        for numbers in (plain(), Numbers(House(PLAIN))):
            for meter in ('main', 'zz', 'a'):
                self.assertEqual(numbers[meter, 0], 0)
                self.assertIs(numbers[meter, 0].__class__, int)
                self.assertIs((meter, 0) in numbers, False)

    def test_other_values(self):
        numbers = plain()
        values = odd_values() + [
            0, 'a', ('a', 1), ('a', 7), ('a', -1), ('a', True), ('main', True), ('a', False), ('a', Amount(2)),
            ('a', '2'), ('a', None), ('stairs', 0), ('stairs', 2), ('ann', 0), ('', 0), ('house', 0), ('a', 2, 7),
            ['a', 2], (['a'], 2), (('a',), 2), ('a', [2]), ('a', (2,)), (2, 'a'), ({}, {}), (Amount(0), 0), ((), ()),
            (House(PLAIN), 0), (numbers, 0), numbers, ('main', 2), ('zz', 6), ('a', {}), (None, 0), (0, 0),
        ]
        for value in values:
            # A bool is equal to a morning, but is none.
            if repr(value) != repr(('a', 0)):
                with self.assertRaises(NoNumber, msg=value) as caught:
                    numbers[value]
                self.assertIs(caught.exception.value, value)
            self.assertIs(value in numbers, False)

    def test_length(self):
        for many in range(len(ROWS) + 1):
            self.assertEqual(len(Numbers(House(PLAIN), ROWS[:many])), many)

    def test_nothing_is_put_by_index(self):
        with self.assertRaises(TypeError):
            plain()['a', 2] = 1
        with self.assertRaises(TypeError):
            del plain()['a', 2]


class Put(unittest.TestCase):

    def test_a_further_number(self):
        numbers = plain()
        more = numbers.put('main', 2, 5)
        self.assertIsInstance(more, Numbers)
        self.assertEqual(more.rows, ROWS[:3] + (('main', 2, 5),) + ROWS[3:])
        self.assertEqual(more.house, numbers.house)
        self.assertEqual(numbers, plain())
        self.assertEqual(numbers.put(number=0, morning=6, meter='zz').rows, ROWS + (('zz', 6, 0),))
        self.assertEqual(numbers.put('a', 1, 9999).rows, (('a', 1, 9999),) + ROWS)

    def test_in_the_place_of_an_elder_one(self):
        for at, (meter, morning, number) in enumerate(ROWS):
            for other in (0, 1, 9999, number):
                put = plain().put(meter, morning, other)
                self.assertEqual(put.rows, ROWS[:at] + ((meter, morning, other),) + ROWS[at + 1:])
                self.assertEqual((put[meter, morning], len(put)), (other, 5))

    def test_into_no_rows(self):
        numbers = Numbers(House(PLAIN)).put('zz', 1, 3)
        self.assertEqual((numbers.rows, numbers.stretches), ((('zz', 1, 3),), (('zz', 0, 1, 3),)))

    def test_in_any_sequence(self):
        chance = random.Random(7)
        for _ in range(30):
            rows, numbers = list(ROWS), Numbers(House(PLAIN))
            chance.shuffle(rows)
            for row in rows:
                numbers = numbers.put(*row)
            self.assertEqual(numbers, plain())

    def test_errors(self):
        for meter in without(odd_values(), str) + NO_METERS:
            for morning, number in ((1, 1), (0, 1), ('x', None)):
                with self.assertRaises(NoMeter) as caught:
                    plain().put(meter, morning, number)
                self.assertIs(caught.exception.value, meter)
        for morning in without(odd_values(), int) + [0] + NO_MORNINGS:
            for number in (1, -1, None):
                with self.assertRaises(BadMorning) as caught:
                    plain().put('a', morning, number)
                self.assertIs(caught.exception.value, morning)
        for number in without(odd_values(), int) + NO_NUMBERS:
            with self.assertRaises(BadNumber) as caught:
                plain().put('a', 2, number)
            self.assertIs(caught.exception.value, number)


class Parts(unittest.TestCase):

    def test_only_and_without(self):
        numbers = plain()
        for bits in range(32):
            places = tuple(place for at, place in enumerate(PLACES) if bits >> at & 1)
            kept, left = numbers.only(places), numbers.without(places)
            self.assertIsInstance(kept, Numbers)
            self.assertIsInstance(left, Numbers)
            self.assertEqual(kept.rows, tuple(row for row in ROWS if row[:2] in places))
            self.assertEqual(left.rows, tuple(row for row in ROWS if row[:2] not in places))
            self.assertEqual((kept.house, left.house), (numbers.house, numbers.house))
        self.assertEqual(numbers, plain())

    def test_by_name(self):
        self.assertEqual(plain().only(places=(('zz', 4),)).stretches, (('zz', 0, 4, 9999),))
        self.assertEqual(plain().without(places=PLACES), Numbers(House(PLAIN)))

    def test_stretches_are_joined(self):
        self.assertEqual(plain().without((('a', 2), ('main', 1))).stretches,
                         (('main', 0, 3, 4), ('zz', 0, 4, 9999), ('a', 0, 6, 20)))

    def test_bad_places(self):
        values = odd_values() + [
            0, list(PLACES), PLACES[::-1], (PLACES[1], PLACES[0]), (PLACES[0], PLACES[0]), PLACES + PLACES[-1:],
            PLACES + (('zz', 6),), (('a', 0),), (('a', 1),), (('stairs', 2),), ROWS, (ROWS[0],), PLACES[0], ('a', 2),
            (['a', 2],), (('a', '2'),), (('a', Amount(2)),), (('main', True),), ('a2',), (None,), {PLACES[0]: 1},
            (('main', 1), ('a', 2)),
        ]
        for value in values:
            if value != ():
                for function in (plain().only, plain().without):
                    with self.assertRaises(BadPlaces, msg=value) as caught:
                        function(value)
                    self.assertIs(caught.exception.value, value)


class Compared(unittest.TestCase):

    def check(self, one, other, less, more):
        """less, more: whether each row of one is one of other, and the other way about."""
        self.assertIs(one <= other, less)
        self.assertIs(one >= other, more)
        self.assertIs(one < other, less and not more)
        self.assertIs(one > other, more and not less)
        self.assertIs(one == other, less and more)
        self.assertIs(one != other, not (less and more))

    def test_all_parts(self):
        house, rows = House(PLAIN), ROWS[:3]
        parts = [tuple(row for at, row in enumerate(rows) if bits >> at & 1) for bits in range(8)]
        for one in parts:
            for other in parts:
                self.check(Numbers(house, one), Numbers(House(PLAIN), other), set(one) <= set(other),
                           set(other) <= set(one))

    def test_rows_with_other_numbers(self):
        self.check(plain(), plain().put('a', 2, 8), False, False)
        self.check(plain().only((('a', 2),)), plain().put('a', 2, 8), False, False)
        self.check(plain().without((('a', 2),)), plain().put('a', 2, 8), True, False)

    def test_other_houses(self):
        for rows in ((), ROWS):
            one, other = Numbers(House(PLAIN), rows), Numbers(House(OTHER), rows)
            self.assertIs(one == other, False)
            self.assertIs(one != other, True)
            for act in (operator.lt, operator.le, operator.gt, operator.ge):
                with self.assertRaises(OtherHouse) as caught:
                    act(one, other)
                self.assertIs(caught.exception.value, other)
                with self.assertRaises(OtherHouse) as caught:
                    act(other, one)
                self.assertIs(caught.exception.value, one)

    def test_equal_to_nothing_else(self):
        for numbers in (plain(), Numbers(House(PLAIN))):
            for value in odd_values() + [0, numbers.rows, numbers.house, (numbers,), [numbers], None]:
                self.assertIs(numbers == value, False)
                self.assertIs(value == numbers, False)

    def test_no_operands(self):
        for value in without(odd_values(), Numbers) + [0, 1, ROWS]:
            for act in (operator.lt, operator.le, operator.gt, operator.ge, operator.add, operator.sub, operator.mul):
                with self.assertRaises(TypeError):
                    act(plain(), value)
                with self.assertRaises(TypeError):
                    act(value, plain())

    def test_operators_that_are_not_described(self):
        for act in (operator.add, operator.sub, operator.mul, operator.and_, operator.or_, operator.floordiv):
            with self.assertRaises(TypeError):
                act(plain(), plain())
        for act in (operator.neg, operator.pos, abs):
            with self.assertRaises(TypeError):
                act(plain())


class Stretches(unittest.TestCase):

    def test_meter_by_meter_as_the_house_has_them(self):
        self.assertEqual(plain().stretches, (
            ('main', 0, 1, 9), ('main', 1, 3, -5), ('zz', 0, 4, 9999), ('a', 0, 2, 7), ('a', 2, 6, 13)))

    def test_numbers_that_fall(self):
        numbers = Numbers(House(PLAIN), (('a', 1, 9999), ('a', 2, 0), ('a', 3, 1), ('a', 6, 0)))
        self.assertEqual(numbers.stretches, (('a', 0, 1, 9999), ('a', 1, 2, -9999), ('a', 2, 3, 1), ('a', 3, 6, -1)))

    def test_one_day(self):
        numbers = Numbers(House(SMALL), (('a', 1, 1), ('main', 1, 0)))
        self.assertEqual(numbers.stretches, (('main', 0, 1, 0), ('a', 0, 1, 1)))

    def test_kinds(self):
        for stretch in plain().stretches:
            self.assertEqual([part.__class__ for part in stretch], [str, int, int, int])
        self.assertIs(plain().stretches.__class__, tuple)

    def test_as_told(self):
        chance = random.Random(72)
        for _ in range(60):
            house = random_house(chance, chance.randint(1, 14), chance.randint(1, 4), 9)
            rows = random_rows(chance, house, random_use(chance, house), chance.random(), 2)
            numbers, told = Numbers(house, rows), []
            for meter in house.meters:
                marks = [0] + [morning for morning in range(1, house.days + 1) if (meter, morning) in numbers]
                for first, behind in zip(marks, marks[1:]):
                    told.append((meter, first, behind, numbers[meter, behind] - numbers[meter, first]))
            self.assertEqual(numbers.stretches, tuple(told))
            self.assertEqual(len(told), len(rows))


if __name__ == '__main__':
    unittest.main()
