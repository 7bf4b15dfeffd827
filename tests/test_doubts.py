import itertools
import random
import unittest

from tests.samples import SMALL, odd_values
from tests.use_lists import all_uses, counter, ends_by, fraction, random_house, random_rows, random_use, shows_rows
from whoseuse.amounts import Amount
from whoseuse.doubts import doubted, needless, shows_doubted, shows_needless
from whoseuse.ends import ceiling, fits, fitting, floor
from whoseuse.errors import Contrary, NoNumber, TooMany
from whoseuse.houses import House
from whoseuse.numbers import Numbers
from whoseuse.weighings import Weighing, shown

PLAIN = 'days 4\nflat a 3\nbare stairs 2\nlives ann a 0 2\nlives bob a 2 4'


def plain():
    return Numbers(House(PLAIN), (('a', 4, 8), ('main', 2, 7), ('main', 4, 12)))


def contrary():
    """The number of morning 2 is greater than that of morning 4, and than what could be used till then."""
    return Numbers(House(PLAIN), (('a', 2, 7), ('a', 4, 4), ('main', 4, 12)))


def places_of(numbers):
    return tuple(row[:2] for row in numbers.rows)


def tuples_ahead(numbers, places):
    """All tuples of places of rows that stand ahead of this one."""
    all_places = places_of(numbers)
    return [some for many in range(len(all_places) + 1) for some in itertools.combinations(all_places, many)
            if (many, some) < (len(places), places)]


def small_cases(seed, many, lies, most=8):
    """(chance, numbers, all uses) of small houses with so many false numbers."""
    chance = random.Random(seed)
    for _ in range(many):
        days, places, rooms = chance.choice(((1, 4, 3), (2, 2, 2), (2, 3, 1), (2, 4, 1), (3, 2, 2), (3, 3, 1),
                                             (4, 2, 1), (4, 1, 3), (5, 1, 2), (6, 1, 1), (3, 1, 9)))
        house = random_house(chance, days, places, rooms)
        rows = random_rows(chance, house, random_use(chance, house), chance.choice((0.3, 0.6, 1)), lies)
        rows = tuple(sorted(chance.sample(rows, min(len(rows), most))))
        yield chance, Numbers(house, rows), all_uses(house)


def great_cases(seed, many, lies, most=8):
    chance = random.Random(seed)
    for _ in range(many):
        house = random_house(chance, chance.randint(9, 14), chance.randint(1, 4), 9)
        rows = random_rows(chance, house, random_use(chance, house), chance.choice((0.15, 0.4, 1)), lies)
        rows = tuple(sorted(chance.sample(rows, min(len(rows), most))))
        yield chance, Numbers(house, rows)


class Doubted(unittest.TestCase):

    def check(self, numbers, result):
        """Whether the result is right, by what it tells alone."""
        self.assertIs(shows_doubted(numbers, result), True)
        self.assertEqual([part.__class__ for part in result], [tuple, tuple, tuple])
        places, use, lots = result
        self.assertEqual(places, tuple(sorted(set(places) & set(places_of(numbers)))))
        left = [row for row in numbers.rows if row[:2] not in places]
        self.assertTrue(numbers.house.is_use(use))
        self.assertTrue(shows_rows(numbers.house, use, left))
        bare = [lot for lot, paper in lots]
        self.assertEqual(bare, sorted(set(bare)))
        for lot, paper in lots:
            self.assertEqual(lot, tuple(sorted(set(lot) & set(places_of(numbers)))))
            self.assertTrue(all(isinstance(amount, Amount) for amount in paper))
            self.assertGreater(ends_by(numbers.only(lot), Weighing(numbers.house), paper)[0], 0)
        for ahead in tuples_ahead(numbers, places):
            self.assertTrue(any(not set(ahead) & set(lot) for lot in bare), ahead)

    def test_small_houses(self):
        told = {}
        for lies in (0, 1, 2, 4):
            for chance, numbers, uses in small_cases(200 + lies, 60, lies):
                result = doubted(numbers)
                self.check(numbers, result)
                shows = [{row[:2] for row in numbers.rows if not shows_rows(numbers.house, use, (row,))} for use in uses]
                # The places that no use's false rows are all among stand no chance.
                first = min((len(some), some) for some in (tuple(sorted(wrong)) for wrong in shows))[1]
                self.assertEqual(result[0], first)
                told[len(first)] = told.get(len(first), 0) + 1
        self.assertGreater(min(told[many] for many in (0, 1, 2)), 20, told)
        self.assertGreater(max(told), 2)

    def test_great_houses(self):
        told = {}
        for lies in (0, 1, 2, 4, 8):
            for chance, numbers in great_cases(210 + lies, 20, lies):
                result = doubted(numbers)
                self.check(numbers, result)
                told[len(result[0])] = told.get(len(result[0]), 0) + 1
        self.assertGreater(min(told[many] for many in (0, 1, 2, 3)), 3, told)

    def test_all_fit(self):
        result = doubted(plain())
        self.check(plain(), result)
        self.assertEqual((result[0], result[2]), ((), ()))
        for numbers in (Numbers(House(PLAIN)), Numbers(House(SMALL), (('a', 1, 1), ('main', 1, 1)))):
            self.check(numbers, doubted(numbers))
            self.assertEqual(doubted(numbers)[0], ())

    def test_by_hand(self):
        places, use, lots = doubted(contrary())
        self.assertEqual(places, (('a', 2),))
        self.assertEqual([lot for lot, paper in lots], [(('a', 2),)])
        # Either can be taken back: the first one is told.
        self.assertEqual(doubted(contrary().put('a', 2, 6))[0], (('a', 2),))
        self.assertEqual(doubted(contrary().put('main', 4, 9999))[0], (('a', 2), ('main', 4)))
        self.assertEqual(doubted(Numbers(House(SMALL), (('a', 1, 2), ('main', 1, 2))))[0], (('a', 1), ('main', 1)))

    def test_by_how_many_ahead_of_as_tuples(self):
        # The last row alone is against the two others: it goes, and not these.
        numbers = Numbers(House('days 6\nflat a 1'), (('a', 2, 2), ('a', 4, 4), ('main', 5, 0)))
        self.assertEqual(doubted(numbers)[0], (('main', 5),))
        self.check(numbers, doubted(numbers))

    def test_eight_rows_and_nine(self):
        house = House('days 9\nflat a 9\nlives ann a 0 9')
        for number in (0, 9999):
            rows = tuple(('a', morning, number) for morning in range(1, 10))
            self.check(Numbers(house, rows[:8]), doubted(Numbers(house, rows[:8])))
            for value in odd_values() + [doubted(Numbers(house, rows[:8]))]:
                for act in (lambda: doubted(Numbers(house, rows)), lambda: shows_doubted(Numbers(house, rows), value)):
                    with self.assertRaises(TooMany) as caught:
                        act()
                    self.assertEqual(caught.exception.value, 8)
                    self.assertIs(caught.exception.value.__class__, int)

    def test_all_eight_are_false(self):
        house = House('days 8\nflat a 1\nflat b 1')
        rows = tuple(('a', morning, 9 + 9 * morning) for morning in range(1, 9))
        places, use, lots = doubted(Numbers(house, rows))
        self.assertEqual(places, places_of(Numbers(house, rows)))
        self.check(Numbers(house, rows), (places, use, lots))

    def test_equal_calls(self):
        for numbers in (plain(), contrary()):
            self.assertEqual(repr(doubted(numbers)), repr(doubted(numbers=Numbers(House(PLAIN), numbers.rows))))
        self.assertEqual(contrary().rows, (('a', 2, 7), ('a', 4, 4), ('main', 4, 12)))


class ShowsDoubted(unittest.TestCase):

    def setUp(self):
        self.numbers = contrary().put('a', 2, 5)
        self.use = ((1, 1, 1, 1), (2, 2, 2, 2))
        self.lots = (((('a', 2), ('a', 4)), (0, -1)),)

    def test_by_other_hands(self):
        self.assertEqual(doubted(self.numbers)[0], (('a', 2),))
        for paper in ((0, -1), (Amount(0), Amount(-1)), (-1, -7), (0, Amount(-1, 9))):
            value = ((('a', 2),), self.use, (((('a', 2), ('a', 4)), paper),))
            self.assertIs(shows_doubted(value=value, numbers=self.numbers), True)

    def test_further_lots(self):
        # A lot need not be one of which none can be left out.
        whole = places_of(self.numbers)
        for lots in ((self.lots[0], (whole, (0, 0, -1))), ((whole, (0, 0, -1)),), ((whole, (0, Amount(-1, 9), -1)),)):
            self.assertIs(shows_doubted(self.numbers, ((('a', 2),), self.use, lots)), True)

    def test_spoilt(self):
        lot, paper = self.lots[0]
        whole = places_of(self.numbers)
        right = ((('a', 2),), self.use, self.lots)
        self.assertIs(shows_doubted(self.numbers, right), True)
        for places in [(), (('a', 4),), (('main', 4),), (('a', 2), ('a', 4)), whole, [('a', 2)], (['a', 2],), None, 'a', 0,
                       (('a', 3),), (('a', Amount(2)),), ('a', 2), (('a', 2), ('a', 2)), True]:
            self.bad((places, self.use, self.lots))
        for use in [((1, 1, 1, 0), (2, 2, 2, 2)), ((1, 1, 1, 1), (2, 2, 2, 1)), list(self.use), None, (), 0, self.use[:1],
                    ((True, 1, 1, 1), (2, 2, 2, 2)), ((Amount(1), 1, 1, 1), (2, 2, 2, 2)), self.use[0]]:
            self.bad((right[0], use, self.lots))
        for lots in [(), list(self.lots), None, self.lots[0], (list(self.lots[0]),), self.lots + self.lots, ((lot,),),
                     (self.lots[0] + (0,),), ((whole, (0, 0, -1)), self.lots[0]), ((lot, (0, 1)),), ((lot, (0, 0)),),
                     ((lot, (0,)),), ((lot, (0, -1, 0)),), ((lot, [0, -1]),), ((lot, (False, -1)),), ((lot, None),),
                     ((lot[::-1], paper),), ((list(lot), paper),), ((lot[:1], (-1,)),), ((paper, lot),), (lot, paper),
                     self.lots + ((whole, (0, 0, 0)),), self.lots + (None,), ((), ()), (((), ()),), True,
                     self.lots + ((lot, (0, -2)),), ((('a', 4), paper),), (((('a', 4),), (-1,)),)]:
            self.bad((right[0], self.use, lots))
        for value in odd_values() + [right[:2], right + ((),), list(right), right[::-1], 0]:
            self.bad(value)

    def bad(self, value):
        self.assertIs(shows_doubted(self.numbers, value), False, value)

    def test_a_later_tuple_of_places(self):
        # The use fits without these places, and no fewer of them would do: but another tuple stands ahead.
        use = ((3, 2, 0, 0), (2, 2, 2, 1))
        self.assertTrue(fits(self.numbers.without((('a', 4),)), use))
        for lots in (self.lots, self.lots + ((places_of(self.numbers), (0, 0, -1)),)):
            self.bad(((('a', 4),), use, lots))

    def test_numbers_that_fit(self):
        use = ((3, 1, 2, 2), (2, 1, 1, 0))
        self.assertIs(shows_doubted(plain(), ((), use, ())), True)
        for value in [((), use, ((),)), ((), use, (((), ()),)), ((), use, (((('a', 4),), (0,)),)), ((('a', 4),), use, ()),
                      ((), use, (((('a', 4),), (1,)),)), ((), (), ()), ((), use, []), ([], use, ())]:
            self.assertIs(shows_doubted(plain(), value), False, value)

    def test_lots_that_leave_some_tuple_out(self):
        for lies in (2, 3, 5):
            for chance, numbers in great_cases(220 + lies, 12, lies):
                places, use, lots = doubted(numbers)
                for at in range(len(lots)):
                    less = lots[:at] + lots[at + 1:]
                    told = all(any(not set(ahead) & set(lot) for lot, paper in less)
                               for ahead in tuples_ahead(numbers, places))
                    self.assertIs(shows_doubted(numbers, (places, use, less)), told)
                self.assertIs(shows_doubted(numbers, (places, use, lots)), True)


class Needless(unittest.TestCase):

    def check(self, numbers, meter, morning, result):
        """Whether the result is right, by what it tells alone; returns its word."""
        self.assertIs(shows_needless(numbers, meter, morning, result), True)
        self.assertIs(result.__class__, tuple)
        self.assertEqual(len(result), 3)
        word, one, other = result
        others, weighing = numbers.without(((meter, morning),)), shown(numbers.house, meter, morning)
        if word == 'follows':
            for paper in (one, other):
                self.assertIs(paper.__class__, tuple)
                self.assertTrue(all(isinstance(amount, Amount) for amount in paper))
            self.assertEqual(floor(others, weighing, one), numbers[meter, morning])
            self.assertEqual(ceiling(others, weighing, other), numbers[meter, morning])
        else:
            self.assertEqual(word, 'open')
            for use in (one, other):
                self.assertTrue(shows_rows(numbers.house, use, others.rows))
            shows = [counter(numbers.house, use, meter, morning) for use in (one, other)]
            self.assertNotEqual(shows[0], shows[1])
        return word

    def test_small_houses(self):
        told = {'follows': 0, 'open': 0}
        for chance, numbers, uses in small_cases(230, 80, 0, 20):
            for meter, morning, number in numbers.rows:
                word = self.check(numbers, meter, morning, needless(numbers, meter, morning))
                others = [row for row in numbers.rows if row[:2] != (meter, morning)]
                shows = {counter(numbers.house, use, meter, morning) for use in uses
                         if shows_rows(numbers.house, use, others)}
                self.assertEqual(word, 'follows' if shows == {number} else 'open')
                told[word] += 1
        self.assertGreater(min(told.values()), 50, told)

    def test_great_houses(self):
        told = {'follows': 0, 'open': 0}
        for chance, numbers in great_cases(231, 30, 0, 60):
            for meter, morning, number in chance.sample(numbers.rows, min(6, len(numbers))):
                told[self.check(numbers, meter, morning, needless(numbers, meter, morning))] += 1
        self.assertGreater(min(told.values()), 10, told)

    def test_by_hand(self):
        house = House(PLAIN)
        self.assertEqual(needless(plain(), 'main', 2)[0], 'open')
        numbers = Numbers(house, (('a', 3, 0), ('a', 4, 3), ('main', 4, 11)))
        # 8 units of the stairs are all that they have room for, and nothing was used in the flat till morning 3.
        for meter, morning, word in (('a', 3, 'open'), ('a', 4, 'follows'), ('main', 4, 'open')):
            self.assertEqual(self.check(numbers, meter, morning, needless(numbers, meter, morning)), word)
        numbers = Numbers(house, (('a', 2, 3), ('a', 3, 3), ('a', 4, 3), ('main', 3, 4)))
        for meter, morning, word in (('a', 2, 'open'), ('a', 3, 'follows'), ('a', 4, 'open'), ('main', 3, 'open')):
            self.assertEqual(self.check(numbers, meter, morning, needless(numbers, meter, morning)), word)
        self.assertEqual(needless(Numbers(House(SMALL), (('a', 1, 1), ('main', 1, 1))), 'a', 1)[0], 'follows')

    def test_no_numbers(self):
        for numbers in (plain(), contrary()):
            for meter in odd_values() + ['a', 'main', 'stairs', 'b']:
                for morning in odd_values() + [0, 1, 3, 5, -1, Amount(4)]:
                    for act in (lambda: needless(numbers, meter, morning),
                                lambda: shows_needless(numbers, meter, morning, None)):
                        with self.assertRaises(NoNumber) as caught:
                            act()
                        told = caught.exception.value
                        self.assertIs(told.__class__, tuple)
                        self.assertEqual(len(told), 2)
                        self.assertIs(told[0], meter)
                        self.assertIs(told[1], morning)

    def test_contrary(self):
        for value in odd_values():
            for meter, morning in (('a', 2), ('a', 4), ('main', 4)):
                for act in (lambda: needless(contrary(), meter, morning),
                            lambda: shows_needless(contrary(), meter, morning, value)):
                    with self.assertRaises(Contrary) as caught:
                        act()
                    self.assertEqual(fitting(contrary())[1], caught.exception.value)
                    self.assertEqual(caught.exception.value, (('a', 2),))

    def test_by_name_and_again(self):
        numbers = plain()
        told = repr(needless(numbers, 'a', 4))
        self.assertEqual(repr(needless(morning=4, meter='a', numbers=numbers)), told)
        self.assertIs(shows_needless(value=needless(plain(), 'a', 4), morning=4, meter='a', numbers=numbers), True)
        self.assertEqual(numbers, plain())


class ShowsNeedless(unittest.TestCase):

    def test_follows(self):
        house = House(SMALL)
        numbers = Numbers(house, (('a', 1, 1), ('main', 1, 1)))
        for one, other in (((1,), (1,)), ((Amount(1),), (Amount(1),)), ((2,), (1,)), ((1,), (0,)), ((3,), (-1,))):
            self.assertIs(shows_needless(numbers, 'a', 1, ('follows', one, other)), True, (one, other))
        self.bad(numbers, ('follows', (1,), (2,)))
        for paper in [(0,), (Amount(1, 2),), (), (1, 1), [1], (True,), ('1',), (None,), None, 1, ((1,),)]:
            self.bad(numbers, ('follows', paper, (1,)))
        for paper in [(2,), (Amount(3, 2),), (), (1, 1), [1], (True,), ('1',), (None,), None, 1, ((1,),)]:
            self.bad(numbers, ('follows', (1,), paper))
        for value in [('open', (1,), (1,)), ['follows', (1,), (1,)], ('follows', (1,)), ('follows', (1,), (1,), ()),
                      ('Follows', (1,), (1,)), (True, (1,), (1,)), ('open', ((1,),), ((0,),)), ('follows', ((1,),), (1,)),
                      ('open', ((1,),), ((1,),)), ((1,), 'follows', (1,))] + odd_values():
            self.bad(numbers, value)

    def bad(self, numbers, value):
        self.assertIs(shows_needless(numbers, 'a', 1, value), False, value)

    def test_open(self):
        numbers = Numbers(House('days 2\nflat a 1\nbare b 1'), (('a', 1, 1), ('main', 2, 2)))
        use, other = ((1, 0), (0, 1)), ((0, 1), (1, 0))
        for one in (use, ((1, 1), (0, 0))):
            for another in (other, ((0, 0), (1, 1))):
                self.assertIs(shows_needless(numbers, 'a', 1, ('open', one, another)), True)
                self.assertIs(shows_needless(numbers, 'a', 1, ('open', another, one)), True)
        for wrong in [use, ((1, 1), (0, 0)), ((0, 0), (1, 0)), ((0, 1), (1, 1)), None, (), [[0, 1], [1, 0]], [other], list(other),
                      ((0, True), (1, 0)), ((0, Amount(1)), (1, 0)), ((0, 2), (0, 0)), other[:1], 0, 'use', other[0]]:
            self.bad(numbers, ('open', use, wrong))
            if wrong not in (use, ((1, 1), (0, 0))):
                self.bad(numbers, ('open', wrong, use))
        for value in [('follows', use, other), ['open', use, other], ('open', use), ('open', use, other, ()), (use, other),
                      ('open', (use, other)), (None, use, other), ('follows', (1,), (1,)), ('follows', (0,), (0,)),
                      (['open'], use, other)] + odd_values():
            self.bad(numbers, value)

    def test_papers_that_do_not_reach_the_number(self):
        for chance, numbers, uses in small_cases(232, 40, 0, 20):
            for meter, morning, number in numbers.rows[:4]:
                word, one, other = needless(numbers, meter, morning)
                others, weighing = numbers.without(((meter, morning),)), shown(numbers.house, meter, morning)
                for _ in range(8):
                    paper = tuple(chance.choice((-1, 0, 1, Amount(1, 2))) for _ in others.stretches)
                    low, high = ends_by(others, weighing, paper)
                    if word == 'follows':
                        self.assertIs(shows_needless(numbers, meter, morning, (word, paper, other)), low == number)
                        self.assertIs(shows_needless(numbers, meter, morning, (word, one, paper)), high == number)
                    else:
                        self.assertIs(shows_needless(numbers, meter, morning, ('follows', paper, paper)), False)
                if word == 'open':
                    self.assertIs(shows_needless(numbers, meter, morning, (word, one, one)), False)
                    self.assertIs(shows_needless(numbers, meter, morning, (word, other, one)), True)
                self.assertEqual(fraction(floor(others, weighing, (0,) * len(others))), 0)


if __name__ == '__main__':
    unittest.main()
