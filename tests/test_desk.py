import random
import unittest

from tests.samples import LITTLE, SMALL, odd_values, without
from tests.test_bills import random_rule, rich_house
from tests.use_lists import counter, random_use
from whoseuse.bills import account
from whoseuse.books import Book
from whoseuse.desk import Desk
from whoseuse.ends import fitting, greatest, least
from whoseuse.errors import Back, BadHouse, BadLine, BadMorning, BadNumber, BadRule, Contrary, Expected, MeterError, NoMeter
from whoseuse.errors import NoNumber, NoPerson, NothingToRedo, NothingToUndo, NotYet, Past
from whoseuse.houses import House
from whoseuse.paying import fair, off, pays
from whoseuse.rules import Rule
from whoseuse.weighings import use_of

PLAIN = 'days 4\nflat a 3\nbare stairs 2\nlives ann a 0 2\nlives bob a 2 4'
BACK = 'every 4\nbehind nothing\nlate back\nblock days\nrest heads'
TOLD = ['go 4', 'read a 4 8', 'read main 4 12']


def begun(lines=(), text=PLAIN, rule=BACK):
    desk = Desk(text, rule)
    for line in lines:
        desk.say(line)
    return desk


def ends(book, weighing):
    return f'{least(book.numbers, weighing)[0].text} {greatest(book.numbers, weighing)[0].text}'


class Made(unittest.TestCase):

    def test_book_and_rule(self):
        for desk in (Desk(PLAIN, BACK), Desk(rule=BACK, text=PLAIN)):
            self.assertIsInstance(desk.book, Book)
            self.assertEqual(desk.book, Book(House(PLAIN)))
            self.assertEqual(desk.rule, Rule(BACK))

    def test_the_very_book(self):
        desk = Desk(PLAIN, BACK)
        book = desk.book
        desk.say('go 2')
        self.assertIs(desk.book, book)
        self.assertEqual(book.today, 2)
        book['a', 2] = 3
        self.assertEqual(desk.say('drop a 2'), 'ok')
        with book.trial():
            desk.say('go 4')
            self.assertEqual(book.today, 4)
        self.assertEqual(desk.book.today, 2)

    def test_two_desks(self):
        one, other = Desk(PLAIN, BACK), Desk(PLAIN, BACK)
        one.say('go 2')
        self.assertEqual(other.book.today, 0)

    def test_bad_texts(self):
        for value in without(odd_values(), str):
            for rule in (BACK, None, ''):
                with self.assertRaises(BadHouse) as caught:
                    Desk(value, rule)
                self.assertEqual(caught.exception.value, -1)
            with self.assertRaises(BadRule) as caught:
                Desk(PLAIN, value)
            self.assertEqual(caught.exception.value, -1)
        for text, rule, error, value in [('', BACK, BadHouse, 1), ('days 4', BACK, BadHouse, 2), (PLAIN + '\n', '', BadHouse, 6),
                                         (PLAIN, '', BadRule, 1), (PLAIN, BACK + '\n', BadRule, 6), (PLAIN, PLAIN, BadRule, 1),
                                         (BACK, PLAIN, BadHouse, 1), (PLAIN, 'every 4\nbehind now', BadRule, 2),
                                         (PLAIN, 'every 4', BadRule, 2), (House(PLAIN), BACK, BadHouse, -1), (PLAIN, Rule(BACK), BadRule, -1)]:
            with self.assertRaises(error) as caught:
                Desk(text, rule)
            self.assertEqual(caught.exception.value, value)


class Acts(unittest.TestCase):

    def test_each_act(self):
        desk, book = begun(), Book(House(PLAIN))
        for line, act in [('go 1', lambda: book.go(1)), ('read a 1 3', lambda: book.__setitem__(('a', 1), 3)),
                          ('expect main 3', lambda: book.expect('main', 3)), ('go 3', lambda: book.go(3)),
                          ('read main 3 0', lambda: book.__setitem__(('main', 3), 0)), ('drop a 1', lambda: book.drop('a', 1)),
                          ('read main 1 9999', lambda: book.__setitem__(('main', 1), 9999)), ('undo', book.undo), ('undo', book.undo),
                          ('redo', book.redo), ('go 3', lambda: book.go(3)), ('expect a 4', lambda: book.expect('a', 4))]:
            self.assertEqual(desk.say(line), 'ok')
            act()
            self.assertEqual(desk.book, book)
            self.assertEqual(desk.book.journal, book.journal)

    def test_by_name(self):
        self.assertEqual(begun().say(line='go 0'), 'ok')

    def test_what_the_book_raises(self):
        lines = ['go 2', 'read a 2 4', 'expect main 3']
        for line, error, value in [
                ('go 5', BadMorning, 5), ('go 9999999999', BadMorning, 9999999999), ('go 1', Back, 1), ('go 0', Back, 0),
                ('read b 1 1', NoMeter, 'b'), ('read stairs 1 1', NoMeter, 'stairs'), ('read ann 9 99999', NoMeter, 'ann'),
                ('read a 0 1', BadMorning, 0), ('read a 5 10000', BadMorning, 5), ('read main 3 10000', NotYet, 3),
                ('read a 1 10000', BadNumber, 10000), ('drop a 1', NoNumber, ('a', 1)), ('drop stairs 2', NoNumber, ('stairs', 2)),
                ('drop main 0', NoNumber, ('main', 0)), ('expect b 3', NoMeter, 'b'), ('expect a 0', BadMorning, 0),
                ('expect a 5', BadMorning, 5), ('expect a 2', Past, 2), ('expect a 1', Past, 1), ('expect main 3', Expected, ('main', 3)),
                ('redo', NothingToRedo, None)]:
            desk = begun(lines)
            with self.assertRaises(error) as caught:
                desk.say(line)
            self.assertIs(caught.exception.__class__, error)
            self.assertEqual(caught.exception.value, value)
            self.assertEqual(desk.book.journal, begun(lines).book.journal)
        with self.assertRaises(NothingToUndo):
            begun().say('undo')


class Asked(unittest.TestCase):

    def test_by_hand(self):
        desk = begun(TOLD)
        for line, told in [('use ann', '2 6'), ('use bob', '2 6'), ('use house', '4 4'), ('bill ann', '6 6'), ('bill bob', '6 6'),
                           ('bill house', '0 0'), ('off ann', '0 4'), ('off bob', '0 4'), ('off house', '-4 -4'),
                           ('pays ann bob', '1 3'), ('pays ann house', '2 2'), ('pays house ann', '0 0'), ('pays bob bob', '1 3'),
                           ('fits', 'yes'), ('fair 4', 'yes'), ('fair 9999', 'yes')]:
            self.assertEqual(desk.say(line), told, line)
        self.assertIn(desk.say('fair 3'), ('ann', 'bob'))
        self.assertIn(desk.say('fair 0'), ('ann', 'bob'))

    def test_fractions(self):
        desk = begun(['go 4', 'read main 4 7', 'read a 4 0'], PLAIN.replace('bare stairs 2', 'bare stairs 9\nprice 0 1'))
        self.assertEqual(desk.say('bill ann'), '7/2 7/2')
        self.assertEqual(desk.say('off house'), '-7 -7')
        desk.say('undo')
        self.assertEqual(desk.say('pays ann house'), '0 7/2')

    def test_fits(self):
        desk = begun(TOLD + ['read a 2 9'])
        self.assertEqual(desk.say('fits'), 'a 2')
        desk = begun(TOLD + ['read main 2 13'])
        self.assertEqual(desk.say('fits'), 'main 2')
        desk = begun(['go 4', 'read a 4 1', 'read a 2 4'])
        self.assertEqual(desk.say('fits'), 'a 2, a 4')
        desk = begun(['go 4', 'read a 4 12', 'read main 4 3', 'read main 2 9'])
        self.assertEqual(desk.say('fits'), ', '.join(f'{meter} {morning}' for meter, morning in fitting(desk.book.numbers)[1]))
        self.assertEqual(begun().say('fits'), 'yes')

    def test_what_the_functions_raise(self):
        for desk in (begun(TOLD), begun(TOLD + ['read a 2 9'])):
            for line, value in [('use zoe', 'zoe'), ('bill zoe', 'zoe'), ('off a', 'a'), ('pays zoe ann', 'zoe'), ('pays ann zoe', 'zoe'),
                                ('pays zoe abe', 'zoe'), ('use stairs', 'stairs'), ('bill undo', 'undo')]:
                with self.assertRaises(NoPerson) as caught:
                    desk.say(line)
                self.assertEqual(caught.exception.value, value)
        desk = begun(TOLD + ['read a 2 9'])
        for line in ('use ann', 'bill ann', 'off ann', 'pays ann bob', 'fair 4', 'use house'):
            with self.assertRaises(Contrary) as caught:
                desk.say(line)
            self.assertEqual(caught.exception.value, (('a', 2),))

    def test_against_the_functions(self):
        chance = random.Random(700)
        for _ in range(25):
            house, rule = rich_house(chance, chance.randint(2, 9), chance.randint(1, 3), 9), random_rule(chance)
            use, desk = random_use(chance, house), None
            desk = Desk(house.text, rule.text)
            for morning in range(1, house.days + 1):
                self.assertEqual(desk.say(f'go {morning}'), 'ok')
                for meter in house.meters:
                    if chance.random() < 0.3:
                        self.assertEqual(desk.say(f'read {meter} {morning} {counter(house, use, meter, morning)}'), 'ok')
            book = desk.book
            self.assertEqual(desk.say('fits'), 'yes')
            for person in house.people:
                self.assertEqual(desk.say(f'use {person}'), ends(book, use_of(house, person)))
                self.assertEqual(desk.say(f'bill {person}'), ends(book, account(book, rule, person)))
                self.assertEqual(desk.say(f'off {person}'), ends(book, off(book, rule, person)))
                for user in house.people:
                    self.assertEqual(desk.say(f'pays {person} {user}'), ends(book, pays(book, rule, person, user)))
            for number in (0, 1, 5, 50, 5000):
                result = fair(book, rule, number)
                self.assertEqual(desk.say(f'fair {number}'), 'yes' if result[0] == 'fair' else result[1])

    def test_what_is_asked_is_no_act(self):
        desk = begun(TOLD)
        desk.say('undo')
        for line in ('use ann', 'bill ann', 'off ann', 'pays ann bob', 'fits', 'fair 4'):
            self.assertIs(desk.say(line).__class__, str)
        self.assertEqual(desk.say('redo'), 'ok')
        self.assertEqual(desk.book, begun(TOLD).book)

    def test_the_rule_of_the_desk(self):
        now = BACK.replace('4', '2', 1).replace('back', 'now')
        self.assertEqual([begun(TOLD, rule=now).say(f'bill {person}') for person in ('ann', 'bob', 'house')], ['0 0', '12 12', '0 0'])


class BadLines(unittest.TestCase):

    def bad(self, value):
        desk = begun(TOLD)
        with self.assertRaises(BadLine, msg=value) as caught:
            desk.say(value)
        self.assertIs(caught.exception.value, value)
        self.assertEqual(desk.book.journal, begun(TOLD).book.journal)

    def test_values_of_any_kind(self):
        for value in odd_values() + [0, ['fits'], ('fits',), ['go', 4], ('go', 4)]:
            self.bad(value)

    def test_other_words(self):
        for line in ['', ' ', 'x', 'Go 4', 'GO 4', 'say', 'book', 'days 4', 'flat b 1', 'help', 'fitting', 'fewest', 'told', 'every 4', 'go4',
                     'number 4', 'meter main', 'person ann', 'lives ann a 0 2', '4', 'ann', 'yes']:
            self.bad(line)

    def test_words_too_many_or_too_few(self):
        for line in ['go', 'go 4 4', 'read', 'read a', 'read a 4', 'read a 4 8 8', 'drop', 'drop a', 'drop a 4 8', 'expect', 'expect a',
                     'expect a 4 4', 'undo 1', 'redo 1', 'undo undo', 'use', 'use ann bob', 'bill', 'bill ann 4', 'off', 'off ann ann',
                     'pays', 'pays ann', 'pays ann bob house', 'fits 4', 'fits yes', 'fair', 'fair 4 4', 'fair ann 4']:
            self.bad(line)

    def test_blanks(self):
        good = ['go 4', 'read a 4 8', 'drop a 4', 'expect a 4', 'undo', 'redo', 'use ann', 'bill ann', 'off ann', 'pays ann bob', 'fits',
                'fair 4']
        for line in good:
            for other in (f' {line}', f'{line} ', f'{line}\n', f'\n{line}', line + ' ' + line):
                self.bad(other)
            if ' ' in line:
                for blank in ('  ', '\n', ''):
                    self.bad(line.replace(' ', blank, 1))

    def test_no_numbers(self):
        for word in ['-1', '+1', '04', '00', '4.0', 'four', 'a', 'x4', '4x', '0x4', '1_0', '-0', 'main', '4/2', "'4'", '1e1']:
            for line in (f'go {word}', f'read a {word} 8', f'read a 4 {word}', f'drop a {word}', f'expect a {word}', f'fair {word}'):
                self.bad(line)

    def test_no_meters(self):
        for word in ['house', 'rest', 'A', 'Main', 'abcdefghi', 'a1', '1', '-', 'a_b', '']:
            for line in (f'read {word} 4 8', f'drop {word} 4', f'expect {word} 4'):
                self.bad(line)

    def test_no_names(self):
        for word in ['main', 'rest', 'Ann', 'abcdefghi', 'a1', '1', '-', '']:
            for line in (f'use {word}', f'bill {word}', f'off {word}', f'pays {word} ann', f'pays ann {word}', f'pays zoe {word}'):
                self.bad(line)

    def test_a_small_house(self):
        desk = begun(['go 1', 'read a 1 1'], SMALL, LITTLE)
        self.assertEqual([desk.say(line) for line in ('fits', 'use house', 'bill house', 'off house', 'pays house house', 'fair 0')],
                         ['yes', '1 1', '1 1', '0 0', '1 1', 'yes'])

    def test_all_errors_are_meter_errors(self):
        for line in (None, 'x', 'go 9', 'use zoe', 'redo'):
            with self.assertRaises(MeterError):
                begun(TOLD).say(line)


if __name__ == '__main__':
    unittest.main()
