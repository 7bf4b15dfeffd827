import itertools
import random
import unittest

from tests.samples import SMALL, odd_values, without
from tests.use_lists import all_uses, counter, ends_by, fraction, random_house, random_rows, random_use, random_weights
from tests.use_lists import shows_rows, small_amount, small_whole, worth
from whoseuse.amounts import Amount
from whoseuse.ends import greatest, least
from whoseuse.errors import BadAmount, BadOffers, BadReadings, BadWeighing, Contrary, TooMany
from whoseuse.houses import House
from whoseuse.numbers import Numbers
from whoseuse.settling import fewest, settled, shows_fewest, shows_settled
from whoseuse.weighings import Weighing, cost_of, shown, use_of

CROSS = 'days 2\nflat a 1\nflat b 1\nlives ann a 0 1'
PLAIN = 'days 4\nflat a 3\nbare stairs 2\nlives ann a 0 2\nlives bob a 2 4'
BOTH = (('a', 2), ('main', 1))


def cross():
    """One unit was used, on one of two days in one of two flats; ann's is one of the four cells."""
    house = House(CROSS)
    return Numbers(house, (('main', 2, 1),)), use_of(house, 'ann')


def contrary():
    return Numbers(House(PLAIN), (('a', 2, 5), ('a', 4, 4), ('main', 4, 12))), use_of(House(PLAIN), 'ann')


def free_places(numbers):
    return [(meter, morning) for meter in sorted(numbers.house.meters) for morning in range(1, numbers.house.days + 1)
            if (meter, morning) not in numbers]


def small_cases(seed, many):
    """(chance, numbers, uses that fit, weighing, amount) of small houses."""
    chance = random.Random(seed)
    for _ in range(many):
        days, places, rooms = chance.choice(((1, 4, 3), (2, 2, 2), (2, 3, 1), (2, 4, 1), (3, 2, 2), (3, 3, 1),
                                             (4, 2, 1), (4, 1, 3), (5, 1, 2), (6, 1, 1), (3, 1, 9)))
        house = random_house(chance, days, places, rooms)
        rows = random_rows(chance, house, random_use(chance, house), chance.choice((0.2, 0.4, 0.6)))
        fit = [use for use in all_uses(house) if shows_rows(house, use, rows)]
        some = chance.choice((small_whole, small_amount, lambda chance: chance.choice((0, 0, 0, 1))))
        weighing = Weighing(house, some(chance), random_weights(chance, house, some))
        told = worth(weighing, chance.choice(fit))
        amount = Amount(told.numerator, told.denominator) + chance.choice((0, 0, Amount(-1, 2), 1, -1))
        yield chance, Numbers(house, rows), fit, weighing, amount


def great_cases(seed, many):
    chance = random.Random(seed)
    for _ in range(many):
        house = random_house(chance, chance.randint(9, 14), chance.randint(1, 4), 9)
        rows = random_rows(chance, house, random_use(chance, house), chance.choice((0.7, 0.9)))
        numbers = Numbers(house, rows)
        some = chance.choice((small_whole, small_amount, lambda chance: chance.choice((0, 0, 0, 0, 1))))
        weighing = Weighing(house, some(chance), random_weights(chance, house, some))
        low, high = least(numbers, weighing)[0], greatest(numbers, weighing)[0]
        yield chance, numbers, weighing, chance.choice((low, high, high - Amount(1, 3), low - 1, (low + high) // 2))


def by_rows(numbers, fit, weighing, readings):
    """{row shown at the readings: worths of the uses that show it}."""
    found = {}
    for use in fit:
        row = tuple(counter(numbers.house, use, meter, morning) for meter, morning in readings)
        found.setdefault(row, set()).add(worth(weighing, use))
    return found


def word_of(rows, amount):
    """What settled tells, or TooMany, by the rows that all uses show."""
    if len(rows) > 60:
        return 'too many'
    right = fraction(amount)
    return 'settled' if all(max(some) <= right or min(some) > right for some in rows.values()) else 'open'


def all_choices(offers):
    """(price, choice) in sequence."""
    found = []
    for many in range(4):
        for some in itertools.combinations(offers, many):
            found.append((sum(row[2] for row in some), many, tuple(row[:2] for row in some)))
    return [(price, choice) for price, many, choice in sorted(found)]


class Checked(unittest.TestCase):

    def check_tree(self, numbers, weighing, amount, readings, tree):
        """Whether the tree is right, by what it tells alone."""
        self.assertIs(tree.__class__, tuple)
        if not readings:
            word, paper = tree
            low, high = ends_by(numbers, weighing, paper)
            self.assertTrue(all(isinstance(one, Amount) for one in paper))
            self.assertIn(word, ('yes', 'no'))
            self.assertTrue(high <= fraction(amount) if word == 'yes' else low > fraction(amount))
            return
        low, paper, other, trees = tree
        self.assertIs(low.__class__, int)
        self.assertIs(trees.__class__, tuple)
        self.assertTrue(all(isinstance(one, Amount) for one in paper + other))
        (meter, morning), left = readings[0], readings[1:]
        counts = shown(numbers.house, meter, morning)
        self.assertEqual(ends_by(numbers, counts, paper)[0], low)
        self.assertEqual(ends_by(numbers, counts, other)[1], low + len(trees) - 1)
        self.assertEqual((least(numbers, counts)[0], greatest(numbers, counts)[0]), (low, low + len(trees) - 1))
        for at, one in enumerate(trees):
            self.check_tree(numbers.put(meter, morning, low + at), weighing, amount, left, one)

    def check_open(self, numbers, weighing, amount, readings, uses):
        for use in uses:
            self.assertTrue(numbers.house.is_use(use) and shows_rows(numbers.house, use, numbers.rows))
        rows = [[counter(numbers.house, use, meter, morning) for meter, morning in readings] for use in uses]
        self.assertEqual(rows[0], rows[1])
        self.assertTrue(worth(weighing, uses[0]) <= fraction(amount) < worth(weighing, uses[1]))

    def check(self, numbers, weighing, amount, readings, result):
        """Whether the result of settled is right, by what it tells alone; returns its word."""
        self.assertIs(shows_settled(numbers, weighing, amount, readings, result), True)
        self.assertIs(result.__class__, tuple)
        if result[0] == 'settled':
            word, tree = result
            self.check_tree(numbers, weighing, amount, readings, tree)
        else:
            word, use, other = result
            self.assertEqual(word, 'open')
            self.check_open(numbers, weighing, amount, readings, (use, other))
        return word


class Settled(Checked):

    def test_small_houses(self):
        seen = {}
        for chance, numbers, fit, weighing, amount in small_cases(600, 70):
            free = free_places(numbers)
            for many in range(4):
                readings = tuple(sorted(chance.sample(free, min(many, len(free)))))
                word = word_of(by_rows(numbers, fit, weighing, readings), amount)
                if word == 'too many':
                    with self.assertRaises(TooMany):
                        settled(numbers, weighing, amount, readings)
                else:
                    result = settled(numbers, weighing, amount, readings)
                    self.assertEqual(self.check(numbers, weighing, amount, readings, result), word)
                seen[word, len(readings)] = seen.get((word, len(readings)), 0) + 1
        for word in ('settled', 'open'):
            for many in range(4):
                self.assertGreater(seen[word, many], 8, seen)

    def test_great_houses(self):
        seen = {'settled': 0, 'open': 0}
        for chance, numbers, weighing, amount in great_cases(601, 40):
            free = free_places(numbers)
            readings = tuple(sorted(chance.sample(free, min(chance.choice((0, 1, 1, 2)), len(free)))))
            try:
                result = settled(numbers, weighing, amount, readings)
            except TooMany:
                continue
            seen[self.check(numbers, weighing, amount, readings, result)] += 1
        self.assertGreater(min(seen.values()), 8, seen)

    def test_use_is_whole(self):
        # One unit, in one of four cells: the flat and the day tell which. Halves of it could lie crosswise.
        numbers, ann = cross()
        for amount in (0, Amount(0), Amount(1, 2), Amount(999, 1000)):
            for readings, word in (((), 'open'), ((('a', 1),), 'settled'), ((('a', 2),), 'open'), ((('main', 1),), 'open'),
                                   (BOTH, 'settled'), ((('b', 2), ('main', 1)), 'settled'), ((('b', 1), ('b', 2)), 'open')):
                self.assertEqual(self.check(numbers, ann, amount, readings, settled(numbers, ann, amount, readings)), word)

    def test_amounts_beyond_the_ends(self):
        numbers, ann = cross()
        for amount, word in ((-1, 'no'), (Amount(-1, 9), 'no'), (1, 'yes'), (Amount(10, 9), 'yes'), (10 ** 8, 'yes')):
            result = settled(numbers, ann, amount, ())
            self.assertEqual((result[0], result[1][0]), ('settled', word))
            self.check(numbers, ann, amount, (), result)

    def test_tree_by_hand(self):
        numbers, ann = cross()
        word, (low, paper, other, trees) = settled(numbers, ann, 0, BOTH)
        self.assertEqual((word, low, len(trees)), ('settled', 0, 2))
        self.assertEqual([(tree[0], len(tree[3])) for tree in trees], [(0, 2), (0, 2)])
        self.assertEqual([[leaf[0] for leaf in tree[3]] for tree in trees], [['yes', 'yes'], ['yes', 'no']])
        self.assertEqual([len(tree[1]) for tree in trees], [2, 2])
        self.assertEqual([len(leaf[1]) for tree in trees for leaf in tree[3]], [3, 3, 3, 3])

    def test_a_reading_that_is_known_already(self):
        house = House(PLAIN)
        numbers = Numbers(house, (('a', 2, 6), ('main', 4, 12)))
        word, (low, paper, other, trees) = settled(numbers, use_of(house, 'ann'), 6, (('a', 1),))
        self.assertEqual((word, low, len(trees), trees[0][0]), ('settled', 3, 1, 'yes'))

    def test_readings_alike(self):
        # A house of one flat: its meter shows what the main one shows.
        house = House('days 2\nflat a 9\nlives ann a 0 1')
        numbers, ann = Numbers(house, (('main', 1, 4),)), use_of(house, 'ann')
        for readings in ((('a', 1),), (('a', 1), ('a', 2)), (('a', 1), ('a', 2), ('main', 2))):
            for amount in (3, 4):
                result = settled(numbers, ann, amount, readings)
                self.assertEqual(self.check(numbers, ann, amount, readings, result), 'settled')
        self.assertEqual(settled(numbers, use_of(house, 'house'), 3, (('a', 2), ('main', 2)))[0], 'settled')

    def test_sixty_rows_and_sixty_one(self):
        house = House('days 10\nflat a 6\nbare b 9\nlives ann a 0 10')
        for most, readings in ((59, (('a', 10),)), (60, (('a', 10),))):
            numbers, ann = Numbers(house, (('main', 10, most),)), use_of(house, 'ann')
            if most == 59:
                self.assertEqual(self.check(numbers, ann, 20, readings, settled(numbers, ann, 20, readings)), 'settled')
            else:
                self.too_many(numbers, ann, 20, readings)

    def too_many(self, numbers, weighing, amount, readings):
        for value in [None, ('open', (), ()), ('settled', ())]:
            for act in (lambda: settled(numbers, weighing, amount, readings),
                        lambda: shows_settled(numbers, weighing, amount, readings, value)):
                with self.assertRaises(TooMany) as caught:
                    act()
                self.assertEqual(caught.exception.value, 60)
                self.assertIs(caught.exception.value.__class__, int)

    def test_sixty_rows_of_several_readings(self):
        house = House('days 1\nflat a 9\nflat b 5\nflat c 9\nlives ann a 0 1')
        ann, none = use_of(house, 'ann'), Numbers(house)
        readings = (('a', 1), ('b', 1))
        for amount in (3, 9):
            self.assertEqual(self.check(none, ann, amount, readings, settled(none, ann, amount, readings)), 'settled')
        self.assertEqual(self.check(none, use_of(house, 'house'), 3, readings, settled(none, use_of(house, 'house'), 3, readings)),
                         'open')
        self.too_many(none, ann, 3, (('a', 1), ('c', 1)))
        self.too_many(none, ann, 3, (('a', 1), ('b', 1), ('c', 1)))
        # 10 of a, with each of them 5 of b, and with each of these 2 of main.
        house = House('days 1\nflat a 9\nflat b 4\nbare c 1\nlives ann a 0 1')
        ann, none = use_of(house, 'ann'), Numbers(house)
        self.too_many(none, ann, 3, (('a', 1), ('b', 1), ('main', 1)))
        self.assertEqual(self.check(none, ann, 3, (('a', 1), ('b', 1)), settled(none, ann, 3, (('a', 1), ('b', 1)))), 'settled')

    def test_too_many_counts_rows_and_not_readings_alone(self):
        for seed in range(602, 606):
            for chance, numbers, fit, weighing, amount in small_cases(seed, 15):
                free = free_places(numbers)
                for readings in [tuple(sorted(chance.sample(free, 3))) for _ in range(3) if len(free) > 2]:
                    many = len(by_rows(numbers, fit, weighing, readings))
                    try:
                        settled(numbers, weighing, amount, readings)
                    except TooMany:
                        self.assertGreater(many, 60)
                    else:
                        self.assertLessEqual(many, 60)

    def test_open_though_too_many(self):
        house = House('days 10\nflat a 9\nbare b 9')
        self.too_many(Numbers(house), use_of(house, 'house'), 3, (('a', 10),))

    def test_by_name_and_again(self):
        numbers, ann = cross()
        for readings in ((), BOTH):
            result = settled(readings=readings, amount=0, weighing=ann, numbers=numbers)
            self.assertEqual(repr(result), repr(settled(Numbers(House(CROSS), numbers.rows), 1 * ann, Amount(0), readings)))
            self.assertIs(shows_settled(value=result, readings=readings, amount=0, weighing=ann, numbers=numbers), True)
        self.assertEqual(numbers, cross()[0])


class Refused(unittest.TestCase):

    def raises(self, error, value, *acts):
        for act in acts:
            with self.assertRaises(error) as caught:
                act()
            self.assertIs(caught.exception.__class__, error)
            self.assertIs(caught.exception.value, value)

    def test_bad_weighings(self):
        for numbers in (cross()[0], contrary()[0]):
            for value in odd_values() + [0, numbers, Weighing(House(CROSS + '\nlives bob b 0 1'))]:
                for amount, more in ((0, ()), ('x', 'x')):
                    self.raises(BadWeighing, value, lambda: settled(numbers, value, amount, more),
                                lambda: fewest(numbers, value, amount, more), lambda: shows_settled(numbers, value, amount, more, ()),
                                lambda: shows_fewest(numbers, value, amount, more, ()))

    def test_bad_amounts(self):
        for numbers, ann in (cross(), contrary()):
            for value in without(odd_values(), (int, Amount)):
                for more in ((), 'x'):
                    self.raises(BadAmount, value, lambda: settled(numbers, ann, value, more),
                                lambda: fewest(numbers, ann, value, more), lambda: shows_settled(numbers, ann, value, more, ()),
                                lambda: shows_fewest(numbers, ann, value, more, ()))

    def test_bad_readings(self):
        for numbers, ann in (cross(), contrary()):
            taken, days = numbers.rows[-1][:2], numbers.house.days
            values = odd_values() + [
                list(BOTH), BOTH[::-1], BOTH + BOTH[:1], BOTH[:1] * 2, (('a', 0),), (('a', days + 1),), (('a', -1),), (taken,),
                (('a', True),), (('a', Amount(1)),), (('a', 1, 1),), (('a',),), ('a', 1), (['a', 1],), (('stairs', 1),), (('ann', 1),),
                (('', 1),), ((1, 'a'),), ((None, 1),), (('a', '1'),), (('main', 1), ('a', 1)), 0, 'a1', {('a', 1): 1}, (('a', 1), None),
                (('a', 1), taken), (('a', 1), ('main', 0))]
            for value in values:
                if value != ():
                    self.raises(BadReadings, value, lambda: settled(numbers, ann, 0, value),
                                lambda: shows_settled(numbers, ann, 0, value, None))

    def test_four_readings(self):
        numbers, ann = cross()
        four = (('a', 1), ('a', 2), ('b', 1), ('b', 2))
        self.raises(BadReadings, four, lambda: settled(numbers, ann, 0, four), lambda: shows_settled(numbers, ann, 0, four, None))
        self.assertEqual(settled(numbers, ann, 0, four[:3])[0], 'settled')

    def test_bad_offers(self):
        good = (('a', 1, 3), ('a', 2, 1), ('main', 1, 1))
        for numbers, ann in (cross(), contrary()):
            taken, days = numbers.rows[-1][:2], numbers.house.days
            values = odd_values() + [
                (), list(good), good[::-1], good[:1] * 2, (('a', 1, 1), ('a', 1, 2)), (('a', 1, 2), ('a', 1, 1)), (taken + (1,),),
                (('a', 0, 1),), (('a', days + 1, 1),), (('a', 1, 0),), (('a', 1, 10),), (('a', 1, True),), (('a', 1, Amount(1)),),
                (('a', 1, '1'),), (('a', 1),), (('a', 1, 1, 1),), (['a', 1, 1],), ('a', 1, 1), (('stairs', 1, 1),), ((None, 1, 1),),
                (('a', 1, -1),), (('a', 1, None),), (('a', Amount(1), 1),), (('a', True, 1),), (('a', 1, 1), None), 0, 'a11',
                (('main', 1, 1), ('a', 1, 1)), {('a', 1, 1): 1}, (('a', 1, 1), taken + (2,)), good + (('main', 0, 1),)]
            for value in values:
                if value != (('main', 1, 1),):
                    self.raises(BadOffers, value, lambda: fewest(numbers, ann, 0, value),
                                lambda: shows_fewest(numbers, ann, 0, value, None))

    def test_five_offers(self):
        house = House(PLAIN)
        numbers, ann = Numbers(house, (('a', 4, 12),)), use_of(house, 'ann')
        five = tuple(('a', morning, 1) for morning in (1, 2, 3)) + (('main', 1, 1), ('main', 2, 1))
        self.raises(BadOffers, five, lambda: fewest(numbers, ann, 0, five), lambda: shows_fewest(numbers, ann, 0, five, None))
        self.assertEqual(fewest(numbers, ann, 0, five[:4])[:3], ('choice', 0, ()))

    def test_contrary(self):
        numbers, ann = contrary()
        for value in odd_values():
            for act in (lambda: settled(numbers, ann, 0, ()), lambda: settled(numbers, ann, 0, (('a', 1), ('main', 1))),
                        lambda: fewest(numbers, ann, 0, (('a', 1, 1),)), lambda: shows_settled(numbers, ann, 0, (), value),
                        lambda: shows_fewest(numbers, ann, 0, (('main', 1, 9),), value)):
                with self.assertRaises(Contrary) as caught:
                    act()
                self.assertEqual(caught.exception.value, (('a', 2), ('a', 4)))


class ShowsSettled(unittest.TestCase):

    def setUp(self):
        self.numbers, self.ann = cross()

    def good(self, value, amount=0, readings=BOTH):
        self.assertIs(shows_settled(self.numbers, self.ann, amount, readings, value), True, value)

    def bad(self, value, amount=0, readings=BOTH):
        self.assertIs(shows_settled(self.numbers, self.ann, amount, readings, value), False, value)

    def test_no_readings(self):
        for paper in ((0,), (Amount(0),), (1,), (Amount(1, 3),)):
            self.good(('settled', ('yes', paper)), 1, ())
        for paper in ((0,), (Amount(0),)):
            self.good(('settled', ('no', paper)), -1, ())
        for tree in [('yes', (-1,)), ('yes', (5,)), ('yes', ()), ('yes', (0, 0)), ('yes', [0]), ('yes', (True,)), ('yes', None), ('no', (0,)),
                     ('yes',), ('yes', (0,), ()), ['yes', (0,)], ((0,), 'yes'), ('Yes', (0,)), (True, (0,)), None, (), 'yes', 0,
                     (0, (0,), (0,), ()), ('yes', ('0',)), (['yes'], (0,))]:
            self.bad(('settled', tree), 1, ())
        for tree in [('no', (1,)), ('no', (2,)), ('no', ()), ('yes', (0,)), ('no', None), ('no', (False,))]:
            self.bad(('settled', tree), -1, ())

    def test_one_reading(self):
        # Of the meter of flat a on the first morning: it shows ann's use.
        paper = (0,)
        yes, no = ('yes', (0, 1)), ('no', (0, 1))
        readings = (('a', 1),)
        self.assertEqual(self.numbers.put('a', 1, 1).stretches, (('main', 0, 2, 1), ('a', 0, 1, 1)))
        for low in ((0,), (Amount(0),)):
            for high in ((0,), (1,), (Amount(1, 2),)):
                self.good(('settled', (0, low, high, (yes, no))), 0, readings)
        for low in [Amount(0), False, 1, -1, '0', None, (0,)]:
            self.bad(('settled', (low, paper, paper, (yes, no))), 0, readings)
        for one in [(1,), (-1,), (), (0, 0), [0], (False,), None, 0, ('0',)]:
            self.bad(('settled', (0, one, paper, (yes, no))), 0, readings)
        for one in [(-1,), (2,), (), (0, 0), [0], (False,), None, 0, ('0',)]:
            self.bad(('settled', (0, paper, one, (yes, no))), 0, readings)
        for trees in [(), (yes,), (no,), (no, yes), (yes, yes), (no, no), (yes, no, no), (yes, yes, no), [yes, no], None, (yes, None), 0,
                      (yes, ('no', (0,))), (('yes', (0,)), no), (yes, ('no', (0, 0))), (('yes', (-1, 0)), no), ((), ()), 'yn',
                      (yes, (0, paper, paper, (yes, no)))]:
            self.bad(('settled', (0, paper, paper, trees)), 0, readings)
        for value in [(0, paper, paper), (0, paper, paper, (yes, no), ()), [0, paper, paper, (yes, no)], yes, (), None, (yes, no)]:
            self.bad(('settled', value), 0, readings)
        right = (0, paper, paper, (yes, no))
        for value in odd_values() + [('settled',), ('settled', right, ()), ['settled', right], ('open', right), right, ('yes', right),
                                     (True, right), ('Settled', right), (right, 'settled'), (['settled'], right), 0]:
            self.bad(value, 0, readings)

    def test_numbers_that_no_use_shows(self):
        # A paper can show too wide a span: then there are trees of numbers that no use fits, for which all is shown.
        house = House('days 1\nflat a 2\nlives ann a 0 1')
        numbers, ann = Numbers(house, (('main', 1, 1),)), use_of(house, 'ann')
        readings = (('a', 1),)
        self.assertEqual(settled(numbers, ann, 1, readings)[1][0], 1)
        yes = ('yes', (0, 1))
        self.assertIs(shows_settled(numbers, ann, 1, readings, ('settled', (1, (1,), (1,), (yes,)))), True)
        for low, paper, other, many in ((0, (0,), (1,), 2), (1, (1,), (0,), 2), (0, (0,), (0,), 3)):
            self.assertIs(shows_settled(numbers, ann, 1, readings, ('settled', (low, paper, other, (yes,) * many))), False)

    def spoilt(self, tree):
        """The tree, with one part changed, in all places."""
        for at, part in enumerate(tree):
            others = [None, (), 0, [part]]
            if isinstance(part, int):
                others += [part + 1, part - 1, Amount(part), part == 1]
            if isinstance(part, tuple):
                others += [list(part), part + part[:1], part[:-1], part + (None,)]
            if part in ('yes', 'no'):
                others += ['no' if part == 'yes' else 'yes', 'open']
            for other in others:
                if not (other.__class__ is part.__class__ and other == part):
                    yield tree[:at] + (other,) + tree[at + 1:]
        yield from [tree[:-1], tree + ((),), list(tree)]
        if len(tree) == 4:
            for at, one in enumerate(tree[3]):
                for other in self.spoilt(one):
                    yield tree[:3] + (tree[3][:at] + (other,) + tree[3][at + 1:],)

    def test_each_part_of_a_tree(self):
        for amount, readings in ((0, BOTH), (0, (('a', 1),)), (1, (('b', 1),)), (1, ()), (-1, ()), (0, (('a', 1), ('a', 2), ('b', 1)))):
            word, tree = settled(self.numbers, self.ann, amount, readings)
            self.assertEqual(word, 'settled')
            many = 0
            for other in self.spoilt(tree):
                self.bad(('settled', other), amount, readings)
                many += 1
            self.assertGreater(many, 10)

    def test_trees_of_other_numbers_or_readings(self):
        result = settled(self.numbers, self.ann, 0, BOTH)
        self.bad(result, 1)
        self.bad(result, 0, BOTH[:1])
        self.bad(result, 0, (('a', 1),))
        self.bad(result, 0, (('b', 2), ('main', 1)))
        self.bad(result, 0, ())

    def test_open(self):
        readings = (('a', 2),)
        # The unit was used in flat a: on the first day it is ann's, on the second one not.
        use, other = ((0, 1), (0, 0)), ((1, 0), (0, 0))
        self.good(('open', use, other), 0, readings)
        self.good(('open', use, other), Amount(1, 2), readings)
        self.good(('open', ((0, 0), (0, 1)), other), 0, ())
        for one, two in [(other, use), (use, use), (other, other), (((0, 0), (0, 1)), other), (((0, 0), (1, 0)), other),
                         (((0, 0), (0, 0)), other), (use, ((1, 0), (0, 1))), (use, ((1, 1), (0, 0))), (None, other), (use, None),
                         (list(use), other), (use, [list(row) for row in other]), (((0, True), (0, 0)), other), (use, ((Amount(1), 0), (0, 0))),
                         (use, other[:1]), ((), ()), (use, ((2, -1), (0, 0)))]:
            self.bad(('open', one, two), 0, readings)
        for amount in (1, -1):
            self.bad(('open', use, other), amount, readings)
        self.bad(('open', use, other), 0, (('a', 1),))
        self.bad(('open', use, other), 0, BOTH)
        for value in [('open', use), ('open', use, other, ()), ['open', use, other], ('settled', use, other), (use, other), ('open', (use, other)),
                      (None, use, other), (['open'], use, other)] + odd_values():
            self.bad(value, 0, readings)

    def test_all_pairs_of_uses(self):
        for chance, numbers, fit, weighing, amount in small_cases(610, 30):
            free = free_places(numbers)
            readings = tuple(sorted(chance.sample(free, min(1, len(free)))))
            for _ in range(60):
                use, other = chance.choice(fit), chance.choice(fit)
                same = all(counter(numbers.house, use, meter, morning) == counter(numbers.house, other, meter, morning)
                           for meter, morning in readings)
                told = same and worth(weighing, use) <= fraction(amount) < worth(weighing, other)
                self.assertIs(shows_settled(numbers, weighing, amount, readings, ('open', use, other)), told)


class Fewest(Checked):

    def check_fewest(self, numbers, weighing, amount, offers, result):
        self.assertIs(shows_fewest(numbers, weighing, amount, offers, result), True)
        self.assertIs(result.__class__, tuple)
        some = all_choices(offers)
        reasons = result[-1]
        if result[0] == 'choice':
            word, price, choice, tree, reasons = result
            self.assertIs(price.__class__, int)
            self.check_tree(numbers, weighing, amount, choice, tree)
            some = some[:some.index((price, choice))]
        else:
            self.assertEqual((result[0], len(result)), ('none', 2))
        self.assertIs(reasons.__class__, tuple)
        self.assertEqual([row[0] for row in reasons], [choice for price, choice in some])
        for choice, use, other in reasons:
            self.check_open(numbers, weighing, amount, choice, (use, other))

    def expected(self, numbers, fit, weighing, amount, offers):
        for price, choice in all_choices(offers):
            word = word_of(by_rows(numbers, fit, weighing, choice), amount)
            if word != 'open':
                return word if word == 'too many' else (price, choice)
        return 'none'

    def random_offers(self, chance, numbers):
        free = free_places(numbers)
        some = sorted(chance.sample(free, min(chance.randint(1, 4), len(free))))
        most = chance.choice((1, 2, 9))
        return tuple((meter, morning, chance.randint(1, most)) for meter, morning in some)

    def test_small_houses(self):
        seen = {'choice': 0, 'none': 0, 'too many': 0, 'two or three': 0}
        for seed in (620, 621):
            for chance, numbers, fit, weighing, amount in small_cases(seed, 60):
                offers = self.random_offers(chance, numbers)
                if not offers:
                    continue
                told = self.expected(numbers, fit, weighing, amount, offers)
                if told == 'too many':
                    with self.assertRaises(TooMany) as caught:
                        fewest(numbers, weighing, amount, offers)
                    self.assertEqual(caught.exception.value, 60)
                    seen['too many'] += 1
                    continue
                result = fewest(numbers, weighing, amount, offers)
                self.check_fewest(numbers, weighing, amount, offers, result)
                self.assertEqual(result[1:3] if result[0] == 'choice' else 'none', told)
                seen[result[0]] += 1
                seen['two or three'] += result[0] == 'choice' and len(result[2]) > 1
        self.assertGreater(min(seen['choice'], seen['none']), 25, seen)
        self.assertGreater(seen['two or three'], 4, seen)

    def test_great_houses(self):
        seen = {'choice': 0, 'none': 0}
        for chance, numbers, weighing, amount in great_cases(622, 40):
            offers = self.random_offers(chance, numbers)
            if offers:
                try:
                    result = fewest(numbers, weighing, amount, offers)
                except TooMany:
                    continue
                self.check_fewest(numbers, weighing, amount, offers, result)
                seen[result[0]] += 1
        self.assertGreater(seen['choice'], 8, seen)

    def test_by_hand(self):
        numbers, ann = cross()
        for offers, told in [((('a', 1, 3), ('a', 2, 1), ('main', 1, 1)), (2, BOTH)), ((('a', 1, 2), ('a', 2, 1), ('main', 1, 1)), (2, (('a', 1),))),
                             ((('a', 1, 1),), (1, (('a', 1),))), ((('a', 2, 9), ('main', 1, 9)), (18, BOTH)),
                             ((('a', 2, 1), ('b', 2, 1), ('main', 1, 1)), (2, BOTH)), ((('a', 2, 2), ('b', 2, 1), ('main', 1, 1)), (2, (('b', 2), ('main', 1)))),
                             ((('a', 2, 1),), None), ((('a', 2, 1), ('b', 2, 1)), None), ((('a', 2, 1), ('b', 1, 1), ('b', 2, 1)), None)]:
            result = fewest(numbers, ann, 0, offers)
            self.check_fewest(numbers, ann, 0, offers, result)
            self.assertEqual(result[1:3] if told else result[0], told or 'none', offers)

    def test_settled_without_any_reading(self):
        numbers, ann = cross()
        for amount, word in ((1, 'yes'), (-1, 'no')):
            result = fewest(numbers, ann, amount, (('a', 1, 1),))
            self.assertEqual(result[:3], ('choice', 0, ()))
            self.assertEqual((result[3][0], result[4]), (word, ()))

    def test_three_but_not_four(self):
        # Each of four flats on its own: all but one must be read, and then the main meter tells the last one.
        house = House('days 1\nflat a 1\nflat b 1\nflat c 1\nflat d 1\nlives ann a 0 1\nlives ann b 0 1\nlives bob c 0 1')
        weighing = Weighing(house, 0, ((1,), (2,), (4,), (8,)))
        numbers = Numbers(house)
        offers = (('a', 1, 1), ('b', 1, 1), ('c', 1, 1), ('d', 1, 1))
        result = fewest(numbers, weighing, 5, offers)
        self.check_fewest(numbers, weighing, 5, offers, result)
        self.assertEqual(result[:3], ('choice', 3, (('b', 1), ('c', 1), ('d', 1))))
        # At the dearest prices.
        dear = tuple(row[:2] + (9,) for row in offers)
        result = fewest(numbers, weighing, 5, dear)
        self.check_fewest(numbers, weighing, 5, dear, result)
        self.assertEqual(result[:3], ('choice', 27, (('b', 1), ('c', 1), ('d', 1))))
        four = Weighing(house, 0, ((1,), (1,), (1,), (1,)))
        result = fewest(numbers, four, 1, offers)
        self.check_fewest(numbers, four, 1, offers, result)
        self.assertEqual((result[0], len(result[1])), ('none', 15))

    def test_equal_prices(self):
        # By price, then by how many, then as tuples.
        house = House('days 1\nflat a 1\nflat b 1\nlives ann a 0 1')
        numbers, ann = Numbers(house, (('main', 1, 1),)), use_of(house, 'ann')
        self.assertEqual(fewest(numbers, ann, 0, (('a', 1, 4), ('b', 1, 4)))[1:3], (4, (('a', 1),)))
        self.assertEqual(fewest(numbers, ann, 0, (('a', 1, 5), ('b', 1, 4)))[1:3], (4, (('b', 1),)))
        numbers, ann = cross()
        offers = (('a', 1, 2), ('a', 2, 1), ('main', 1, 1))
        result = fewest(numbers, ann, 0, offers)
        self.assertEqual([row[0] for row in result[4]], [(), (('a', 2),), (('main', 1),)])

    def test_too_many_up_to_the_told_choice(self):
        house = House('days 10\nflat a 7\nflat b 1\nbare c 1\nlives ann b 0 1')
        numbers, ann = Numbers(house), use_of(house, 'ann')
        for prices, word in (((1, 2), 'too many'), ((2, 1), 'choice'), ((9, 1), 'choice'), ((1, 1), 'too many')):
            offers = (('a', 10, prices[0]), ('b', 1, prices[1]))
            if word == 'choice':
                result = fewest(numbers, ann, 0, offers)
                self.check_fewest(numbers, ann, 0, offers, result)
                self.assertEqual(result[2], (('b', 1),))
            else:
                for act in (lambda: fewest(numbers, ann, 0, offers), lambda: shows_fewest(numbers, ann, 0, offers, None)):
                    with self.assertRaises(TooMany) as caught:
                        act()
                    self.assertEqual(caught.exception.value, 60)
        # Without any reading it is settled: nothing is asked of the others.
        self.assertEqual(fewest(numbers, ann, 1, (('a', 10, 1),))[:3], ('choice', 0, ()))

    def test_by_name_and_again(self):
        numbers, ann = cross()
        offers = (('a', 2, 1), ('main', 1, 1))
        result = fewest(offers=offers, amount=0, weighing=ann, numbers=numbers)
        self.assertEqual(repr(result), repr(fewest(Numbers(House(CROSS), numbers.rows), 1 * ann, Amount(0), offers)))
        self.assertIs(shows_fewest(value=result, offers=offers, amount=0, weighing=ann, numbers=numbers), True)
        house = House(PLAIN)
        self.assertEqual(fewest(Numbers(house), cost_of(house, 'ann'), 6, (('main', 4, 9),))[:3], ('choice', 0, ()))


class ShowsFewest(unittest.TestCase):

    def setUp(self):
        self.numbers, self.ann = cross()
        self.offers = (('a', 1, 3), ('a', 2, 1), ('main', 1, 1))

    def told(self, value, offers=None):
        return shows_fewest(self.numbers, self.ann, 0, offers or self.offers, value)

    def test_by_other_hands(self):
        word, price, choice, tree, reasons = fewest(self.numbers, self.ann, 0, self.offers)
        first, second = ((0, 0), (1, 0)), ((1, 0), (0, 0))
        more = (reasons[0], reasons[1], (reasons[2][0], first, second))
        self.assertIs(self.told((word, price, choice, tree, more)), True)
        other = ((0, 0), (0, 1))
        self.assertIs(self.told((word, price, choice, tree, (((), other, second),) + more[1:])), True)
        self.assertIs(self.told((word, price, choice, tree, more[:2] + ((more[2][0], other, second),))), False)
        low, paper, high, trees = tree
        plainer = (low, tuple(one.number for one in paper), high, trees)
        self.assertIs(self.told((word, price, choice, plainer, reasons)), True)

    def test_choice_spoilt(self):
        right = fewest(self.numbers, self.ann, 0, self.offers)
        word, price, choice, tree, reasons = right
        self.assertIs(self.told(right), True)
        for value in [1, 3, 0, Amount(2), True, None, '2', (2,)]:
            self.assertIs(self.told((word, value, choice, tree, reasons)), False)
        for value in [(('a', 1),), (), choice[::-1], list(choice), choice + choice[:1], (('a', 2), ('main', True)), None, 0, choice[:1],
                      (('a', 2), ['main', 1]), (('a', Amount(2)), ('main', 1)), (('a', 2, 1), ('main', 1, 1))]:
            self.assertIs(self.told((word, price, value, tree, reasons)), False)
        for value in [(), None, tree[3][0], tree[:3], ('yes', (0,)), list(tree), settled(self.numbers, self.ann, 0, (('a', 1),))[1]]:
            self.assertIs(self.told((word, price, choice, value, reasons)), False)
        use, other = reasons[1][1:]
        for value in [(), reasons[:-1], reasons[::-1], reasons + reasons[-1:], list(reasons), None, 0, reasons[1:],
                      (reasons[0], reasons[1], None), (reasons[0], reasons[1], ()), (reasons[0], list(reasons[1]), reasons[2]),
                      (reasons[0], (reasons[1][0], other, use), reasons[2]), (reasons[0], reasons[1] + ((),), reasons[2]),
                      (reasons[0], (list(reasons[1][0]), use, other), reasons[2]), (reasons[0], reasons[1], reasons[1]),
                      (reasons[0], ((('a', 2), ('main', 1)), use, other), reasons[2]), (reasons[0], (None, use, other), reasons[2]),
                      (reasons[0], (reasons[1][0], ((0, 0), (0, 0)), other), reasons[2]), (reasons[0], (reasons[1][0], use, None), reasons[2]),
                      ((((False,),) + reasons[0][1:]), reasons[1], reasons[2]),
                      (reasons[0], reasons[1], ((('main', True),),) + reasons[2][1:]),
                      (reasons[0], reasons[1], ((('main', Amount(1)),),) + reasons[2][1:])]:
            self.assertIs(self.told((word, price, choice, tree, value)), False, value)
        for value in odd_values() + [right[:4], right + ((),), list(right), ('none', reasons), ('none',) + right[1:], right[1:], 0,
                                     (True,) + right[1:], ('settled',) + right[1:], (['choice'],) + right[1:]]:
            self.assertIs(self.told(value), False, value)

    def test_a_choice_that_is_not_offered(self):
        word, price, choice, tree, reasons = fewest(self.numbers, self.ann, 0, self.offers)
        for readings in ((('b', 2), ('main', 1)), (('b', 1), ('b', 2), ('main', 1)), (('b', 1),)):
            result = settled(self.numbers, self.ann, 0, readings)
            self.assertIs(self.told((word, price, readings, result[1], reasons)), False)

    def test_a_dearer_choice(self):
        tree = settled(self.numbers, self.ann, 0, (('a', 1),))[1]
        reasons = fewest(self.numbers, self.ann, 0, self.offers)[4]
        self.assertIs(self.told(('choice', 3, (('a', 1),), tree, reasons)), False)
        self.assertIs(self.told(('choice', 3, (('a', 1),), tree, reasons + ((BOTH,) + reasons[0][1:],))), False)

    def test_none_spoilt(self):
        offers = (('a', 2, 1), ('b', 2, 1))
        right = fewest(self.numbers, self.ann, 0, offers)
        word, reasons = right
        self.assertEqual((word, [row[0] for row in reasons]), ('none', [(), (('a', 2),), (('b', 2),), (('a', 2), ('b', 2))]))
        self.assertIs(self.told(right, offers), True)
        for value in [(), reasons[:-1], reasons[::-1], reasons + reasons[-1:], list(reasons), None, reasons[1:], (reasons[0],) * 4]:
            self.assertIs(self.told(('none', value), offers), False)
        for value in odd_values() + [('none',), ('none', reasons, ()), ['none', reasons], (None, reasons), ('open', reasons), (reasons, 'none'),
                                     ('choice', 0, (), ('yes', (0,)), ()), ('choice', 2, (('a', 2), ('b', 2)), ('yes', (0,)), reasons[:3])]:
            self.assertIs(self.told(value, offers), False, value)


class SmallHouse(unittest.TestCase):

    def test_all_is_known(self):
        house = House(SMALL)
        numbers, weighing = Numbers(house, (('a', 1, 1),)), use_of(house, 'house')
        self.assertEqual(settled(numbers, weighing, 1, ())[1][0], 'yes')
        self.assertEqual(settled(numbers, weighing, 0, ())[1][0], 'no')
        self.assertEqual(settled(numbers, weighing, 0, (('main', 1),))[1][0], 1)
        self.assertEqual(fewest(numbers, weighing, 0, (('main', 1, 9),))[:3], ('choice', 0, ()))


if __name__ == '__main__':
    unittest.main()
