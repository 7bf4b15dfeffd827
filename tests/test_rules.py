import itertools
import unittest

from tests.samples import LITTLE, SMALL, odd_values, without
from whoseuse.errors import BadRule
from whoseuse.houses import House
from whoseuse.rules import Rule

PLAIN = 'every 2\nbehind before\nlate back\nblock days\nrest heads'
WAYS = [
    [f'every {n}' for n in range(1, 15)],
    ['behind before', 'behind nothing'] + [f'behind {n}' for n in range(10)],
    ['late now', 'late back'],
    ['block days', 'block last'],
    ['rest heads', 'rest places', 'rest house'],
]
WRONG = [
    ['every 0', 'every 15', 'every 02', 'every -1', 'every +2', 'every', 'every ', 'every 2 ', ' every 2', 'every  2',
     'every 2 2', 'Every 2', 'every two', 'every before', 'behind 2', 'every 9999999999', 'every 1.0', 'every2'],
    ['behind', 'behind ', 'behind 10', 'behind -1', 'behind 00', 'behind 01', 'behind now', 'behind Before', 'behind before ',
     'behind  before', 'behind before before', 'behind nothing 1', ' behind 1', 'late 1', 'behind house', 'behind none'],
    ['late', 'late ', 'late before', 'late Now', 'late now ', ' late now', 'late  now', 'late now back', 'late 0', 'late days',
     'block now', 'late nowback'],
    ['block', 'block ', 'block now', 'block day', 'block Days', 'block last ', 'block days last', 'block  days', 'block 1',
     'rest days', ' block days'],
    ['rest', 'rest ', 'rest head', 'rest Heads', 'rest heads ', 'rest  heads', 'rest heads places', 'rest nobody', 'rest 0',
     'rest before', ' rest heads', 'block heads', 'rest rest'],
]


class Rules(unittest.TestCase):

    def test_all_ways(self):
        for lines in itertools.product(*WAYS):
            rule = Rule('\n'.join(lines))
            told = [line.split(' ')[1] for line in lines]
            self.assertEqual(rule.every, int(told[0]))
            self.assertEqual(rule.behind, int(told[1]) if told[1].isdigit() else told[1])
            self.assertEqual([rule.late, rule.block, rule.rest], told[2:])
            self.assertEqual(rule.text, '\n'.join(lines))

    def test_kinds(self):
        rule = Rule(text=PLAIN.replace('before', '1'))
        self.assertIs(rule.every.__class__, int)
        self.assertIs(rule.behind.__class__, int)
        self.assertEqual([one.__class__ for one in (rule.text, rule.late, rule.block, rule.rest)], [str] * 4)

    def test_text_cannot_be_assigned(self):
        with self.assertRaises(AttributeError):
            Rule(PLAIN).text = LITTLE

    def bad(self, text, told):
        with self.assertRaises(BadRule, msg=text) as caught:
            Rule(text)
        self.assertEqual(caught.exception.value, told)
        self.assertIs(caught.exception.value.__class__, int)

    def test_no_strings(self):
        for value in without(odd_values(), str) + [0, [PLAIN], (PLAIN,), PLAIN.split('\n')]:
            self.bad(value, -1)

    def test_other_strings(self):
        for value in ['', ' ', '\n', '\n\n\n\n', 'a', 'every', SMALL, PLAIN.replace('\n', ' '), '\n' + PLAIN]:
            self.bad(value, 1)

    def test_a_wrong_line(self):
        lines = PLAIN.split('\n')
        for at in range(5):
            for line in WRONG[at] + ['', ' ', 'house', 'x'] + [other for other in lines if other != lines[at]]:
                text = '\n'.join(lines[:at] + [line] + lines[at + 1:])
                self.bad(text, at + 1)
                # Further wrong lines do not matter, nor whether lines are missing.
                self.bad('\n'.join(lines[:at] + [line] + ['x'] * 5), at + 1)
                self.bad('\n'.join(lines[:at] + [line]), at + 1)

    def test_a_missing_line(self):
        lines = PLAIN.split('\n')
        for many in range(1, 5):
            self.bad('\n'.join(lines[:many]), many + 1)
            self.bad('\n'.join(lines[:many] + lines[many + 1:]), many + 1)
        self.bad('\n'.join(lines[1:]), 1)

    def test_a_line_too_many(self):
        lines = PLAIN.split('\n')
        for line in lines + ['', ' ', 'x']:
            self.bad('\n'.join(lines + [line]), 6)
            self.bad('\n'.join(lines + [line, line]), 6)
        for at in range(5):
            self.bad('\n'.join(lines[:at + 1] + lines[at:]), at + 2)

    def test_other_sequences(self):
        for lines in itertools.permutations(PLAIN.split('\n')):
            if list(lines) != PLAIN.split('\n'):
                first = [line == right for line, right in zip(lines, PLAIN.split('\n'))].index(False)
                self.bad('\n'.join(lines), first + 1)

    def test_runs(self):
        for many in range(1, 15):
            house = House(f'days {many}\nflat a 1')
            for every in range(1, 15):
                told = [morning for morning in range(every, many, every)] + [many]
                runs = Rule(PLAIN.replace('every 2', f'every {every}')).runs(house)
                self.assertEqual(runs, tuple(told))
                self.assertEqual([run.__class__ for run in runs], [int] * len(told))
        self.assertEqual(Rule(PLAIN).runs(house=House('days 5\nflat a 1')), (2, 4, 5))
        self.assertEqual(Rule(PLAIN).runs(House('days 4\nflat a 1')), (2, 4))
        self.assertEqual(Rule(PLAIN.replace('2', '14')).runs(House('days 4\nflat a 1')), (4,))

    def test_equal(self):
        self.assertIs(Rule(PLAIN) == Rule(PLAIN), True)
        self.assertIs(Rule(PLAIN) != Rule(PLAIN), False)
        for lines in WAYS:
            for line in lines:
                word = line.split(' ')[0]
                own = [other for other in PLAIN.split('\n') if other.startswith(word)][0]
                other = Rule(PLAIN.replace(own, line))
                self.assertIs(Rule(PLAIN) == other, line == own)
                self.assertIs(Rule(PLAIN) != other, line != own)
        for value in odd_values() + [PLAIN, 0, House(SMALL)]:
            self.assertIs(Rule(PLAIN) == value, False)
            self.assertIs(value == Rule(PLAIN), False)

    def test_other_operators(self):
        for value in odd_values() + [Rule(PLAIN), 1]:
            for act in (lambda: Rule(PLAIN) < value, lambda: Rule(PLAIN) >= value, lambda: Rule(PLAIN) * value,
                        lambda: value - Rule(PLAIN), lambda: -Rule(PLAIN), lambda: Rule(PLAIN)[value]):
                with self.assertRaises(TypeError):
                    act()


if __name__ == '__main__':
    unittest.main()
