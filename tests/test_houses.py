import random
import unittest

from tests.house_oracle import wrong_line
from tests.samples import SMALL, odd_values, without
from whoseuse.amounts import Amount
from whoseuse.errors import BadDay, BadHouse, NoFlat
from whoseuse.houses import House

PLAIN = 'days 4\nflat a 3\nbare stairs 2\nlives ann a 0 2\nlives bob a 2 4'
FULL = '''days 14
bare hall 1
flat b 9
bare attic 5
flat a 2
price 0 0
price 3 99
price 13 7
lives b a 0 3
lives zoe a 3 4
lives b a 4 14
lives ann b 13 14
lives ann hall 0 14
lives cy attic 5 6
lives b b 0 1
lives a b 5 13'''


class Told(unittest.TestCase):

    def test_properties(self):
        house = House(PLAIN)
        self.assertEqual(house.text, PLAIN)
        self.assertEqual(house.days, 4)
        self.assertEqual(house.flats, (('a', 3, True), ('stairs', 2, False)))
        self.assertEqual(house.meters, ('main', 'a'))
        self.assertEqual(house.people, ('ann', 'bob', 'house'))

    def test_kinds_of_properties(self):
        house = House(FULL)
        for value in (house.flats, house.meters, house.people) + house.flats:
            self.assertIs(value.__class__, tuple)
        self.assertEqual([inner for name, room, inner in house.flats], [False, True, False, True])
        for name, room, inner in house.flats:
            self.assertIs(inner.__class__, bool)
            self.assertIs(room.__class__, int)

    def test_sequence_of_the_text_and_ascending_people(self):
        house = House(FULL)
        self.assertEqual(house.flats, (('hall', 1, False), ('b', 9, True), ('attic', 5, False), ('a', 2, True)))
        self.assertEqual(house.meters, ('main', 'b', 'a'))
        self.assertEqual(house.people, ('a', 'ann', 'b', 'cy', 'house', 'zoe'))

    def test_nobody_lives_there(self):
        self.assertEqual(House(SMALL).people, ('house',))
        self.assertEqual(House(SMALL).lives('a', 0), 'house')

    def test_house_among_people_though_all_is_let(self):
        self.assertEqual(House('days 1\nflat a 1\nlives ann a 0 1').people, ('ann', 'house'))

    def test_by_name(self):
        house = House(text=PLAIN)
        self.assertEqual(house.lives(flat='a', day=2), 'bob')
        self.assertEqual(house.room(flat='stairs'), 2)
        self.assertEqual(house.price(day=3), 1)
        self.assertIs(house.is_use(value=()), False)


class Lives(unittest.TestCase):

    def row(self, house, flat):
        return ' '.join(house.lives(flat, day) for day in range(house.days))

    def test_day_by_day(self):
        house = House(PLAIN)
        self.assertEqual(self.row(house, 'a'), 'ann ann bob bob')
        self.assertEqual(self.row(house, 'stairs'), 'house house house house')

    def test_full_house(self):
        house = House(FULL)
        self.assertEqual(self.row(house, 'a'), 'b b b zoe' + ' b' * 10)
        self.assertEqual(self.row(house, 'b'), 'b' + ' house' * 4 + ' a' * 8 + ' ann')
        self.assertEqual(self.row(house, 'hall'), 'ann' + ' ann' * 13)
        self.assertEqual(self.row(house, 'attic'), 'house' + ' house' * 4 + ' cy' + ' house' * 8)

    def test_no_place(self):
        house = House(PLAIN)
        for value in without(odd_values(), str) + ['', 'b', 'main', 'house', 'ann', 'a ', 'A', 0, 1]:
            for day in (0, -1, 'x'):
                with self.assertRaises(NoFlat) as caught:
                    house.lives(value, day)
                self.assertIs(caught.exception.value, value)

    def test_no_day(self):
        house = House(PLAIN)
        for value in odd_values() + [-1, 4, 14, 999999999]:
            for flat in ('a', 'stairs'):
                with self.assertRaises(BadDay) as caught:
                    house.lives(flat, value)
                self.assertIs(caught.exception.value, value)


class Rooms(unittest.TestCase):

    def test_room(self):
        self.assertEqual([House(FULL).room(flat) for flat in ('hall', 'b', 'attic', 'a')], [1, 9, 5, 2])

    def test_no_place(self):
        for value in without(odd_values(), str) + ['', 'c', 'main', 'house', 'zoe', 'a\n', 0]:
            with self.assertRaises(NoFlat) as caught:
                House(FULL).room(value)
            self.assertIs(caught.exception.value, value)


class Prices(unittest.TestCase):

    def row(self, text):
        house = House(text)
        return [house.price(day) for day in range(house.days)]

    def test_no_price_line(self):
        self.assertEqual(self.row(PLAIN), [1, 1, 1, 1])

    def test_three(self):
        self.assertEqual(self.row(FULL), [0, 0, 0] + [99] * 10 + [7])

    def test_ahead_of_the_first(self):
        self.assertEqual(self.row('days 5\nflat a 3\nprice 2 30\nprice 4 0'), [1, 1, 30, 30, 0])

    def test_no_day(self):
        for value in odd_values() + [-1, 4, 5, 10 ** 9]:
            with self.assertRaises(BadDay) as caught:
                House(PLAIN).price(value)
            self.assertIs(caught.exception.value, value)


class Uses(unittest.TestCase):

    def test_uses(self):
        house = House(PLAIN)
        for use in (((3, 1, 2, 2), (1, 1, 1, 1)), ((0, 0, 0, 0), (0, 0, 0, 0)), ((3, 3, 3, 3), (2, 2, 2, 2))):
            self.assertIs(house.is_use(use), True)

    def test_no_uses(self):
        house, row, stairs = House(PLAIN), (3, 1, 2, 2), (1, 1, 1, 1)
        wrong = [
            [row, stairs], ([3, 1, 2, 2], stairs), (row, [1, 1, 1, 1]), (row,), (row, stairs, row),
            (row, stairs, ()), ((3, 1, 2), stairs), (row, (1, 1, 1, 1, 1)), ((4, 1, 2, 2), stairs),
            (row, (1, 1, 3, 1)), ((3, 1, 2, -1), stairs), (row, (True, 1, 1, 1)), (row, (1, 1, 1, False)),
            ((Amount(3), 1, 2, 2), stairs), (row, (1, 1, '1', 1)), (row, (1, None, 1, 1)), (row, 4),
            (row, (1, 1, (1,), 1)), 'ab', ('abcd', 'abcd'), {0: row, 1: stairs}, (row, '1111'), (row, None),
        ]
        for value in wrong + odd_values() + [0, 1, 8]:
            self.assertIs(house.is_use(value), False, value)

    def test_small_house(self):
        house = House(SMALL)
        for value in [((0,),), ((1,),)]:
            self.assertIs(house.is_use(value), True)
        for value in [((2,),), (0,), ((),), ((0, 0),), ((0,), (0,))] + odd_values():
            self.assertIs(house.is_use(value), False)

    def test_each_room_and_each_day(self):
        house = House(FULL)
        most = ((1,) * 14, (9,) * 14, (5,) * 14, (2,) * 14)
        self.assertIs(house.is_use(most), True)
        for at in range(4):
            for day in range(14):
                for units in (most[at][0] + 1, -1, True):
                    row = most[at][:day] + (units,) + most[at][day + 1:]
                    self.assertIs(house.is_use(most[:at] + (row,) + most[at + 1:]), False)


class Equal(unittest.TestCase):

    def test_equal_texts(self):
        self.assertIs(House(PLAIN) == House(PLAIN), True)
        self.assertIs(House(PLAIN) != House(PLAIN), False)

    def test_unlike_texts(self):
        self.assertIs(House(PLAIN) == House(FULL), False)
        self.assertIs(House(PLAIN) != House(FULL), True)
        # The same days, places, prices and people, and yet another text.
        self.assertIs(House(SMALL) == House(SMALL + '\nprice 0 1'), False)

    def test_nothing_else(self):
        house = House(FULL)
        for value in odd_values() + [FULL, (FULL,), 1, -1]:
            self.assertIs(house == value, False)
            self.assertIs(value == house, False)

    def test_no_order_and_no_sums(self):
        house = House(PLAIN)
        for act in (lambda: house < house, lambda: house + house, lambda: house + 1, lambda: house * 2,
                    lambda: house >= PLAIN):
            self.assertRaises(TypeError, act)


class Lines(unittest.TestCase):

    def good(self, text):
        self.assertEqual(House(text).text, text)
        self.assertIsNone(wrong_line(text))

    def bad(self, text, line):
        with self.assertRaises(BadHouse, msg=text) as caught:
            House(text)
        self.assertEqual(caught.exception.value, line, text)
        self.assertIs(caught.exception.value.__class__, int)
        self.assertEqual(wrong_line(text), line, text)

    def test_no_string(self):
        for value in without(odd_values(), str) + [0, -1, 14]:
            with self.assertRaises(BadHouse) as caught:
                House(value)
            self.assertEqual(caught.exception.value, -1)

    def test_missing_at_the_end(self):
        self.bad('days 3', 2)
        self.bad('days 3\nbare a 1', 3)
        self.bad('days 3\nbare a 1\nbare b 1\nbare c 1', 5)

    def test_empty_lines(self):
        self.bad('', 1)
        self.bad('\n', 1)
        self.bad('\ndays 3\nflat a 1', 1)
        self.bad('days 3\n', 2)
        self.bad('days 3\n\nflat a 1', 2)
        self.bad(PLAIN + '\n', 6)
        self.bad(PLAIN + '\n\n', 6)
        self.bad(SMALL + '\n', 3)

    def test_days(self):
        for many in range(1, 15):
            self.good(f'days {many}\nflat a 1')
        for word in ('0', '15', '100', '1234567890', '-1', '+1', '01', '00', '014', '', ' 1', '1 ', 'x',
                     '1.0', 'one', '1 1', '1\t', '1_0', '0x1'):
            self.bad(f'days {word}\nflat a 1', 1)
        for line in ('days', 'day 3', 'Days 3', ' days 3', '3', 'days3', 'days\t3', 'flat 3'):
            self.bad(f'{line}\nflat a 1', 1)
        self.bad('days 3\ndays 3\nflat a 1', 2)
        self.bad('days 1\ndays 1\nflat a 1', 2)
        self.bad('days 3\nflat a 1\ndays 3', 3)

    def test_names(self):
        for name in ('a', 'z', 'abcdefgh', 'days', 'flat', 'mains', 'houses', 'resting', 'hous', 'ma'):
            self.good(f'days 2\nflat {name} 1\nlives {name} {name} 0 1')
        for name in ('main', 'house', 'rest', 'abcdefghi', 'A', 'aB', 'a1', '1', 'a-b', 'a_b', '', '.'):
            self.bad(f'days 2\nflat {name} 1', 2)
            self.bad(f'days 2\nbare {name} 1\nflat a 1', 2)
            self.bad(f'days 2\nflat a 1\nlives {name} a 0 1', 3)
            self.bad(f'days 2\nflat a 1\nlives ann {name} 0 1', 3)

    def test_rooms(self):
        for room in range(1, 10):
            self.good(f'days 2\nflat a {room}\nbare b {room}')
        for word in ('0', '10', '-1', '01', '+1', '', ' 1', '1 ', 'a', '1 1', '12345'):
            self.bad(f'days 2\nflat a {word}', 2)
            self.bad(f'days 2\nflat a 1\nbare b {word}', 3)

    def test_places(self):
        self.good('days 2\nflat a 1\nflat b 1\nflat c 1\nflat d 1')
        self.good('days 2\nflat a 1\nbare b 1\nbare c 1\nbare d 1')
        self.good('days 2\nbare a 1\nbare b 1\nbare c 1\nflat d 1')
        self.good('days 2\nbare a 1\nflat b 1\nbare c 1\nbare d 1')
        self.bad('days 2\nbare a 1\nbare b 1\nbare c 1\nbare d 1', 5)
        self.bad('days 2\nbare a 1\nbare b 1\nbare c 1\nbare d 1\nflat e 1', 5)
        self.bad('days 2\nflat a 1\nflat b 1\nflat c 1\nflat d 1\nflat e 1', 6)
        self.bad('days 2\nflat a 1\nflat b 1\nflat c 1\nflat d 1\nbare e 1', 6)
        self.bad('days 2\nbare a 1\nbare b 1\nbare c 1\nflat d 1\nflat e 1', 6)

    def test_unlike_names_of_places(self):
        self.bad('days 2\nflat a 1\nflat a 1', 3)
        self.bad('days 2\nflat a 1\nbare a 2', 3)
        self.bad('days 2\nbare a 1\nflat a 2', 3)
        self.bad('days 2\nflat a 1\nflat b 1\nbare a 2', 4)

    def test_no_flat_ahead(self):
        self.bad('days 2\nprice 0 1', 2)
        self.bad('days 2\nbare a 1\nprice 0 1', 3)
        self.bad('days 2\nbare a 1\nlives ann a 0 1', 3)
        self.bad('days 2\nbare a 1\nprice 0 1\nflat b 1', 3)
        self.bad('flat a 1\ndays 2', 1)
        self.bad('flat a 1', 1)
        self.bad('price 0 1', 1)
        self.bad('lives ann a 0 1', 1)

    def test_prices(self):
        self.good('days 3\nflat a 1\nprice 0 0\nprice 1 99\nprice 2 5')
        self.good('days 3\nflat a 1\nprice 2 0')
        self.bad('days 9\nflat a 1\nprice 0 1\nprice 1 1\nprice 2 1\nprice 3 1', 6)
        for day in ('3', '14', '-1', '00', '01', '+0', '', 'x'):
            self.bad(f'days 3\nflat a 1\nprice {day} 1', 3)
        for number in ('100', '-1', '00', '05', '+1', '', 'x', '1 1', '1 ', ' 1'):
            self.bad(f'days 3\nflat a 1\nprice 0 {number}', 3)
        self.bad('days 3\nflat a 1\nprice 1 1\nprice 1 2', 4)
        self.bad('days 3\nflat a 1\nprice 1 1\nprice 0 2', 4)
        self.bad('days 3\nflat a 1\nprice 0', 3)

    def test_stays(self):
        self.good('days 3\nflat a 1\nlives ann a 0 3')
        self.good('days 3\nflat a 1\nlives ann a 2 3')
        self.good('days 8\nflat a 1' + ''.join(f'\nlives ann a {at} {at + 1}' for at in range(8)))
        self.bad('days 9\nflat a 1' + ''.join(f'\nlives ann a {at} {at + 1}' for at in range(9)), 11)
        for words in ('0 0', '1 1', '2 1', '0 4', '3 4', '3 3', '-1 1', '0 -1', '00 1', '0 01', '0 +1',
                      '0', '0 1 2', '0 1 ', '0  1', ' 0 1', 'x 1', '0 x', ''):
            self.bad(f'days 3\nflat a 1\nlives ann a {words}', 3)
        self.bad('days 3\nflat a 1\nlives ann b 0 1', 3)
        self.bad('days 3\nflat a 1\nlives a 0 1', 3)

    def test_stays_that_touch_or_overlap(self):
        head = 'days 6\nflat a 1\nbare b 1\nlives ann a 2 4\n'
        for words in ('bob a 0 2', 'bob a 4 6', 'ann a 4 5', 'ann a 1 2', 'bob b 2 4', 'ann b 0 6'):
            self.good(f'{head}lives {words}')
        for words in ('bob a 0 3', 'bob a 3 4', 'bob a 3 6', 'bob a 2 4', 'bob a 0 6', 'ann a 2 4', 'ann a 2 3',
                      'ann a 1 5'):
            self.bad(f'{head}lives {words}', 5)
            self.bad(f'{head}lives ann b 0 1\nlives {words}', 6)

    def test_people_called_like_places(self):
        house = House('days 2\nflat a 1\nbare b 1\nlives b a 0 1\nlives a a 1 2\nlives a b 0 2')
        self.assertEqual(house.people, ('a', 'b', 'house'))
        self.assertEqual([house.lives('a', 0), house.lives('a', 1), house.lives('b', 0)], ['b', 'a', 'a'])

    def test_sequence(self):
        self.bad('days 3\nflat a 1\nprice 0 1\nflat b 1', 4)
        self.bad('days 3\nflat a 1\nprice 0 1\nbare b 1', 4)
        self.bad('days 3\nflat a 1\nlives ann a 0 1\nprice 0 1', 4)
        self.bad('days 3\nflat a 1\nlives ann a 0 1\nflat b 1', 4)
        self.bad('days 3\nflat a 1\nlives ann b 0 1\nflat b 1', 3)

    def test_first_of_several_wrong_lines(self):
        self.bad('days 99\nflat a 99', 1)
        self.bad('days 3\nflat a 99\nflat b 99\n', 2)
        self.bad('days 3\nbare a 1\nnonsense', 3)

    def test_unknown_words_and_blanks(self):
        for line in ('tenant a 1', 'flats a 1', 'Flat a 1', 'flat  a 1', 'flat a  1', ' flat a 1', 'flat a 1 ',
                     'flat', 'flat a', 'flat 1 a', 'flat a 1 1', '# flat a 1', 'flat\ta\t1', 'flat,a,1', ' ', 'book'):
            self.bad(f'days 3\n{line}', 2)
            self.bad(f'days 3\n{line}\nflat a 1', 2)

    def test_every_change_of_a_line(self):
        for text in (PLAIN, FULL):
            lines = text.split('\n')
            for at, line in enumerate(lines):
                self.agree(lines[:at] + lines[at + 1:])
                self.agree(lines[:at] + [line, line] + lines[at + 1:])
                self.agree(lines[:at + 1])
                for other in range(at):
                    changed = list(lines)
                    changed[at], changed[other] = changed[other], changed[at]
                    self.agree(changed)

    def test_many_changed_texts(self):
        chance = random.Random(20261119)
        for _ in range(6000):
            self.agree(self.changed(chance).split('\n'))

    def changed(self, chance):
        """The text of a house in which some letters or lines were changed."""
        lines = chance.choice((PLAIN, FULL)).split('\n')
        for _ in range(chance.randrange(4)):
            at = chance.randrange(len(lines))
            way = chance.randrange(5)
            if way == 0:
                lines.insert(at, chance.choice(lines))
            elif way == 1 and len(lines) > 1:
                del lines[at]
            elif way == 2:
                lines.insert(at, chance.choice(('flat c 3', 'bare d 1', 'price 2 8', 'lives jo a 1 2', 'days 2')))
            else:
                line = lines[at]
                spot = chance.randrange(len(line) + 1)
                put = chance.choice(('', ' ', '0', '1', '9', 'a', 'b', '-'))
                lines[at] = line[:spot] + put + line[spot + chance.randrange(2):]
        return '\n'.join(lines)

    def agree(self, lines):
        text = '\n'.join(lines)
        line = wrong_line(text)
        if line is None:
            self.good(text)
        else:
            self.bad(text, line)


if __name__ == '__main__':
    unittest.main()
