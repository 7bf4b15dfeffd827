import random
import unittest
from fractions import Fraction

from tests.samples import SMALL, odd_values
from tests.use_lists import all_uses, ends_by, fraction, great_amount, made, random_house, random_rows, random_use
from tests.use_lists import random_weights, shows_rows, small_amount, small_whole, worth
from whoseuse.amounts import Amount
from whoseuse.ends import ceiling, fits, fitting, floor, greatest, least, shows_fitting, shows_greatest, shows_least
from whoseuse.errors import BadPaper, BadUse, BadWeighing, Contrary
from whoseuse.houses import House
from whoseuse.numbers import Numbers
from whoseuse.weighings import Weighing, cost_of, shown, use_of

PLAIN = 'days 4\nflat a 3\nbare stairs 2\nlives ann a 0 2\nlives bob a 2 4'
OTHER = PLAIN.replace('\nlives ann', '\nprice 0 1\nlives ann')
FULL = ('days 14\nflat zz 9\nbare stairs 9\nflat a 9\nflat n 9\nprice 3 7\nlives ann zz 0 9\nlives bob a 2 14\n'
        'lives cy n 0 3\nlives ann n 3 14')


def plain():
    return Numbers(House(PLAIN), (('a', 4, 8), ('main', 4, 12)))


def contrary():
    return Numbers(House(PLAIN), (('a', 2, 5), ('a', 4, 4), ('main', 4, 12)))


def small_cases(seed, many, lies=0):
    """(chance, numbers, all uses, those that fit) of small houses."""
    chance = random.Random(seed)
    for _ in range(many):
        days, places, rooms = chance.choice(((1, 4, 3), (2, 2, 2), (2, 3, 1), (2, 4, 1), (3, 2, 2), (3, 3, 1),
                                             (4, 2, 1), (4, 1, 3), (5, 1, 2), (6, 1, 1), (3, 1, 9)))
        house = random_house(chance, days, places, rooms)
        uses = all_uses(house)
        rows = random_rows(chance, house, random_use(chance, house), chance.choice((0.2, 0.5, 0.8, 1)), lies)
        yield chance, Numbers(house, rows), uses, [use for use in uses if shows_rows(house, use, rows)]


def great_cases(seed, many, lies=0):
    chance = random.Random(seed)
    for _ in range(many):
        house = random_house(chance, chance.randint(9, 14), chance.randint(1, 4), 9)
        rows = random_rows(chance, house, random_use(chance, house), chance.choice((0.05, 0.15, 0.4, 0.7, 1)), lies)
        yield chance, Numbers(house, rows)


def random_weighing(chance, house):
    some = chance.choice((small_whole, small_amount, great_amount))
    return Weighing(house, some(chance), random_weights(chance, house, some))


def random_paper(chance, numbers):
    return tuple(chance.choice((small_whole, small_amount))(chance) for _ in numbers.stretches)


class Papers(unittest.TestCase):

    def test_by_hand(self):
        # Bob's use and that of the stairs on the last two days are 5: so bob's is at most 5, and ann's at least 3.
        numbers, ann = plain().put('main', 2, 7), use_of(House(PLAIN), 'ann')
        self.assertEqual(floor(numbers, ann, (0, -1, 1)), 3)
        self.assertEqual(ceiling(numbers, ann, (1, 0, 0)), 7)
        self.assertEqual(floor(numbers, ann, (0, 0, 0)), 0)
        self.assertEqual(ceiling(numbers, ann, (0, 0, 0)), 6)
        self.assertEqual(floor(numbers, ann, (0, Amount(-1, 2), Amount(1, 2))), Amount(3, 2))

    def test_no_numbers(self):
        house = House(PLAIN)
        weighing = Weighing(house, Amount(1, 2), ((1, -2, 0, Amount(1, 3)), (0, -1, 5, 0)))
        self.assertEqual(floor(Numbers(house), weighing, ()), Amount(1, 2) - 6 - 2)
        self.assertEqual(ceiling(Numbers(house), weighing, ()), Amount(1, 2) + 3 + 1 + 10)

    def test_cell_by_cell(self):
        for chance, numbers in list(great_cases(81, 60, 1)) + list(great_cases(82, 30)):
            weighing = random_weighing(chance, House(numbers.house.text))
            paper = random_paper(chance, numbers)
            low, high = floor(numbers, weighing, paper), ceiling(numbers, weighing, paper)
            self.assertIsInstance(low, Amount)
            self.assertIsInstance(high, Amount)
            self.assertEqual((fraction(low), fraction(high)), ends_by(numbers, weighing, paper))

    def test_no_use_that_fits_is_beyond(self):
        for chance, numbers, uses, fit in small_cases(83, 60):
            weighing = random_weighing(chance, numbers.house)
            for _ in range(5):
                paper = random_paper(chance, numbers)
                low, high = fraction(floor(numbers, weighing, paper)), fraction(ceiling(numbers, weighing, paper))
                for use in fit:
                    self.assertTrue(low <= worth(weighing, use) <= high)

    def test_always_amounts(self):
        house = House(SMALL)
        for numbers in (Numbers(house), Numbers(house, (('a', 1, 1),))):
            for function in (floor, ceiling):
                self.assertIsInstance(function(numbers, Weighing(house), (0,) * len(numbers)), Amount)

    def test_numbers_that_contradict(self):
        numbers = contrary()
        self.assertEqual(floor(numbers, Weighing(House(PLAIN)), (0, 0, -1)), 1)
        self.assertEqual(ceiling(numbers, Weighing(House(PLAIN), 3), (0, 0, 1)), 3 - 1)

    def test_by_name(self):
        numbers, ann = plain(), use_of(House(PLAIN), 'ann')
        self.assertEqual(floor(paper=(0, 0), weighing=ann, numbers=numbers), 0)
        self.assertEqual(ceiling(paper=(0, 0), weighing=ann, numbers=numbers), 6)

    def test_bad_weighings(self):
        numbers = plain()
        for value in odd_values() + [0, Weighing(House(OTHER)), Weighing(House(SMALL)), numbers, House(PLAIN)]:
            for paper in ((0, 0), (), None):
                for function in (floor, ceiling):
                    with self.assertRaises(BadWeighing) as caught:
                        function(numbers, value, paper)
                    self.assertIs(caught.exception.value, value)

    def test_bad_papers(self):
        numbers, ann = plain(), use_of(House(PLAIN), 'ann')
        for value in odd_values() + [0, (), (0,), (0, 0, 0), [0, 0], (0, True), (False, 0), (0, None), (0, '0'),
                                     ('0', '0'), (0, (0,)), {0: 0, 1: 0}, '00', (ann, ann), (0, [0])]:
            if value != (1, 2):
                for function in (floor, ceiling):
                    with self.assertRaises(BadPaper, msg=value) as caught:
                        function(numbers, ann, value)
                    self.assertIs(caught.exception.value, value)


class Fits(unittest.TestCase):

    def test_plain(self):
        for use, told in [(((3, 1, 2, 2), (1, 1, 1, 1)), True), (((2, 2, 2, 2), (2, 2, 0, 0)), True),
                          (((3, 1, 2, 2), (1, 1, 1, 2)), False), (((3, 3, 3, 0), (1, 1, 1, 0)), False)]:
            self.assertIs(fits(plain(), use), told)
        self.assertIs(fits(use=((0, 0, 0, 0), (0, 0, 0, 0)), numbers=Numbers(House(PLAIN))), True)

    def test_all_uses(self):
        for lies in (0, 1):
            for chance, numbers, uses, fit in small_cases(84, 25, lies):
                told = [use for use in uses if fits(numbers, use)]
                self.assertEqual(told, fit)

    def test_no_uses(self):
        row = (3, 1, 2, 2)
        for numbers in (plain(), contrary()):
            for value in odd_values() + [0, (row,), [row, row], (row, (3, 0, 0, 0)), (row, (True, 1, 1, 1)),
                                         (row, (Amount(1), 1, 1, 1)), (list(row), (1, 1, 1, 1))]:
                with self.assertRaises(BadUse) as caught:
                    fits(numbers, value)
                self.assertIs(caught.exception.value, value)


class Fitting(unittest.TestCase):

    def check(self, numbers, result):
        """Whether the result is right, by what it tells alone; returns whether numbers fit."""
        self.assertIs(result.__class__, tuple)
        self.assertIs(shows_fitting(numbers, result), True)
        if result[0] == 'fits':
            self.assertEqual(len(result), 2)
            self.assertIs(shows_rows(numbers.house, result[1], numbers.rows), True)
            return True
        word, lot, paper, uses = result
        self.assertEqual(word, 'contrary')
        self.assertIs(uses.__class__, tuple)
        self.assertIs(paper.__class__, tuple)
        self.assertTrue(all(isinstance(amount, Amount) for amount in paper))
        kept = numbers.only(lot)
        self.assertGreater(floor(kept, Weighing(numbers.house), paper), 0)
        self.assertEqual(len(uses), len(lot))
        for at, use in enumerate(uses):
            self.assertTrue(numbers.house.is_use(use))
            others = tuple(row for row in kept.rows if row != kept.rows[at])
            self.assertTrue(shows_rows(numbers.house, use, others))
        return False

    def test_small_houses(self):
        told = {True: 0, False: 0}
        for lies in (0, 1, 2):
            for chance, numbers, uses, fit in small_cases(85 + lies, 60, lies):
                good = self.check(numbers, fitting(numbers))
                self.assertEqual(good, len(fit) > 0)
                told[good] += 1
                if not good:
                    self.check_lot(numbers, uses, fitting(numbers)[1])
        self.assertGreater(min(told.values()), 30)

    def check_lot(self, numbers, uses, lot):
        rows = numbers.only(lot).rows
        self.assertFalse(any(shows_rows(numbers.house, use, rows) for use in uses))
        for left in rows:
            others = [row for row in rows if row != left]
            self.assertTrue(any(shows_rows(numbers.house, use, others) for use in uses))

    def test_great_houses(self):
        told = {True: 0, False: 0}
        for chance, numbers in list(great_cases(88, 60)) + list(great_cases(89, 60, 1)) + list(great_cases(90, 20, 5)):
            told[self.check(numbers, fitting(numbers))] += 1
        self.assertGreater(min(told.values()), 30)

    def test_lies_that_only_some_numbers_together_tell(self):
        # All flats tell less than the main meter: none of the rows can be left out.
        house = House('days 14\nflat zz 9\nflat n 9\nflat a 9\nflat b 9')
        for day in (1, 7, 14):
            rows = tuple((meter, day, 3) for meter in ('a', 'b')) + (('main', day, 13), ('n', day, 3), ('zz', day, 3))
            result = fitting(Numbers(house, rows))
            self.check(Numbers(house, rows), result)
            self.assertEqual(result[1], tuple(row[:2] for row in rows))

    def test_any_numbers(self):
        chance = random.Random(91)
        for _ in range(8):
            house = House(FULL)
            rows = tuple((meter, morning, chance.choice((0, 9999, chance.randint(0, 9999))))
                         for meter in sorted(house.meters) for morning in range(1, 15))
            self.assertFalse(self.check(Numbers(house, rows), fitting(Numbers(house, rows))))

    def test_edges(self):
        house = House(SMALL)
        for rows in ((), (('a', 1, 0),), (('a', 1, 1),), (('main', 1, 1),), (('a', 1, 1), ('main', 1, 1))):
            self.assertTrue(self.check(Numbers(house, rows), fitting(Numbers(house, rows))))
        for rows, lot in (((('a', 1, 2),), (('a', 1),)), ((('main', 1, 9999),), (('main', 1),)),
                          ((('a', 1, 0), ('main', 1, 1)), (('a', 1), ('main', 1))),
                          ((('a', 1, 1), ('main', 1, 2)), (('main', 1),))):
            self.assertFalse(self.check(Numbers(house, rows), fitting(Numbers(house, rows))))
            self.assertEqual(fitting(Numbers(house, rows))[1], lot)

    def test_numbers_that_fall(self):
        numbers = contrary()
        self.assertFalse(self.check(numbers, fitting(numbers)))
        self.assertEqual(fitting(numbers)[1], (('a', 2), ('a', 4)))

    def test_equal_calls(self):
        for numbers in (plain(), contrary()):
            self.assertEqual(repr(fitting(numbers)), repr(fitting(numbers=Numbers(House(PLAIN), numbers.rows))))


class Shows(unittest.TestCase):

    def test_all_uses(self):
        for chance, numbers, uses, fit in small_cases(92, 25):
            for use in uses:
                self.assertIs(shows_fitting(numbers, ('fits', use)), use in fit)

    def test_values_of_any_kind(self):
        use = ((3, 1, 2, 2), (1, 1, 1, 1))
        self.assertIs(shows_fitting(numbers=plain(), value=('fits', use)), True)
        values = odd_values() + [
            use, ('fits',), ('fits', use, ()), ('fits', [list(row) for row in use]), ('fits', list(use)),
            ['fits', use], ('Fits', use), (use, 'fits'), (True, use), (None, use), ('contrary', use), ('fits', None),
            ('fits', use[:1]), ('fits', ((3, 1, 2, 2), (1, True, 1, 1))), ('fits', ((3, 1, 2, 2), (1, Amount(1), 1, 1))),
            ('fits', use[0], use[1]), ('contrary', (), (), ()), (['fits'], use), ('fits', 'fits'),
            ('contrary', (('a', 4),), (-1,), (use,)), ('contrary', (('a', 4),), (1,), (use,)),
        ]
        for value in values:
            self.assertIs(shows_fitting(plain(), value), False, value)
        for value in values + [('fits', use)]:
            self.assertIs(shows_fitting(contrary(), value), False, value)

    def test_contrary_by_other_hands(self):
        lot, less, more = (('a', 2), ('a', 4)), ((0, 0, 3, 1), (2, 2, 2, 2)), ((3, 2, 0, 0), (0, 0, 0, 0))
        paper = (0, -1)
        for paper in ((0, -1), (0, Amount(-1)), (Amount(-3, 7), -5), (-1, -100), (0, Amount(-1, 9999))):
            self.assertIs(shows_fitting(contrary(), ('contrary', lot, paper, (less, more))), True, paper)

    def test_contrary_spoilt(self):
        lot, less, more = (('a', 2), ('a', 4)), ((0, 0, 3, 1), (2, 2, 2, 2)), ((3, 2, 0, 0), (0, 0, 0, 0))
        paper, uses = (0, -1), (less, more)
        lots = [(), lot[:1], lot[::-1], lot + lot[1:], lot + (('main', 4),), (('a', 2), ('main', 4)), list(lot),
                (('a', 2), ['a', 4]), (('a', 2), ('a', Amount(4))), (('a', 1), ('a', 4)), (('a', 0), ('a', 4)), None,
                (('a', 2, 5), ('a', 4, 4)), True, 'a', lot[0]]
        papers = [(), (0,), (0, 0), (0, 1), (1, 0), (-1, 0), (0, -1, 0), [0, -1], (False, -1), (0, True), (0, '-1'), None,
                  (Amount(1), Amount(1)), 0]
        others = [(), (less,), (less, more, more), (more, less), (less, less), (more, more), [less, more], None,
                  (less, None), (less, list(more)), (((0, 0, 3, True), less[1]), more), (less, more + more),
                  (((0, 0, 3, Amount(1)), less[1]), more), (((0, 0, 4, 0), less[1]), more), 0, less]
        numbers = contrary()
        self.assertIs(shows_fitting(numbers, ('contrary', lot, paper, uses)), True)
        for value in lots:
            self.assertIs(shows_fitting(numbers, ('contrary', value, paper, uses)), False, value)
        for value in papers:
            self.assertIs(shows_fitting(numbers, ('contrary', lot, value, uses)), False, value)
        for value in others:
            self.assertIs(shows_fitting(numbers, ('contrary', lot, paper, value)), False, value)
        for value in [('contrary', lot, paper), ('contrary', lot, paper, uses, ()), ['contrary', lot, paper, uses],
                      ('fits', lot, paper, uses), (None, lot, paper, uses), ('contrary', (lot, paper, uses)),
                      ('contrary', paper, lot, uses)] + odd_values():
            self.assertIs(shows_fitting(numbers, value), False, value)

    def test_a_lot_of_which_one_can_be_left_out(self):
        # Without the number of the main meter, no use fits all the same.
        lot, use = (('a', 2), ('a', 4), ('main', 4)), ((0, 0, 3, 1), (2, 2, 2, 2))
        for paper in ((0, 0, -1), (-1, 0, -1)):
            self.assertIs(shows_fitting(contrary(), ('contrary', lot, paper, (use, use, use))), False)

    def test_evidence_of_equal_numbers_is_right_evidence(self):
        for chance, numbers in great_cases(93, 15, 1):
            self.assertIs(shows_fitting(Numbers(House(numbers.house.text), numbers.rows), fitting(numbers)), True)


class Ends(unittest.TestCase):

    def check(self, numbers, weighing, low, high):
        """Whether low and high are right, by what they tell alone."""
        for end, function, shows in ((low, floor, shows_least), (high, ceiling, shows_greatest)):
            self.assertIs(end.__class__, tuple)
            told, use, paper = end
            self.assertIsInstance(told, Amount)
            self.assertTrue(numbers.house.is_use(use))
            self.assertTrue(shows_rows(numbers.house, use, numbers.rows))
            self.assertEqual(fraction(told), worth(weighing, use))
            self.assertIs(paper.__class__, tuple)
            self.assertTrue(all(isinstance(amount, Amount) for amount in paper))
            self.assertEqual(function(numbers, weighing, paper), told)
            self.assertIs(shows(numbers, weighing, end), True)
        self.assertEqual(ends_by(numbers, weighing, low[2])[0], fraction(low[0]))
        self.assertEqual(ends_by(numbers, weighing, high[2])[1], fraction(high[0]))

    def test_small_houses(self):
        for chance, numbers, uses, fit in small_cases(94, 120):
            weighing = random_weighing(chance, numbers.house)
            low, high = least(numbers, weighing), greatest(numbers, weighing)
            self.check(numbers, weighing, low, high)
            worths = [worth(weighing, use) for use in fit]
            self.assertEqual((fraction(low[0]), fraction(high[0])), (min(worths), max(worths)))

    def test_great_houses(self):
        for chance, numbers in great_cases(95, 120):
            weighing = random_weighing(chance, House(numbers.house.text))
            self.check(numbers, weighing, least(numbers, weighing), greatest(numbers, weighing))

    def test_what_people_use_and_pay_and_what_meters_show(self):
        house = House(FULL)
        chance = random.Random(96)
        for density in (0, 0.1, 0.3, 1):
            numbers = Numbers(house, random_rows(chance, house, random_use(chance, house), density))
            some = [use_of(house, person) for person in house.people]
            some += [cost_of(house, person) for person in house.people]
            some += [shown(house, meter, morning) for meter in house.meters for morning in (0, 6, 14)]
            for weighing in some:
                self.check(numbers, weighing, least(numbers, weighing), greatest(numbers, weighing))
            for meter, morning, number in numbers.rows:
                weighing = shown(house, meter, morning)
                self.assertEqual((least(numbers, weighing)[0], greatest(numbers, weighing)[0]), (number, number))

    def test_no_numbers(self):
        house = House(PLAIN)
        weighing = Weighing(house, 5, ((1, -2, 0, Amount(1, 3)), (0, -1, 5, 0)))
        self.assertEqual(least(Numbers(house), weighing)[0], 5 - 6 - 2)
        self.assertEqual(greatest(Numbers(house), weighing)[0], 5 + 3 + 1 + 10)
        self.check(Numbers(house), weighing, least(Numbers(house), weighing), greatest(Numbers(house), weighing))

    def test_no_weights(self):
        for weighing in (Weighing(House(PLAIN)), Weighing(House(PLAIN), Amount(-2, 3))):
            low, high = least(plain(), weighing), greatest(plain(), weighing)
            self.check(plain(), weighing, low, high)
            self.assertEqual((low[0], high[0]), (weighing.constant, weighing.constant))

    def test_use_is_whole_where_half_units_would_reach_further_if_meters_were_crossed(self):
        house = House('days 2\nflat a 1\nflat b 1\nlives ann a 0 1')
        numbers = Numbers(house, (('a', 2, 1), ('main', 1, 1), ('main', 2, 2)))
        weighing = Weighing(house, 0, ((Amount(1, 3), Amount(1, 2)), (Amount(1, 5), Amount(1, 7))))
        self.assertEqual(least(numbers, weighing)[0], Amount(1, 3) + Amount(1, 7))
        self.assertEqual(greatest(numbers, weighing)[0], Amount(1, 2) + Amount(1, 5))

    def test_equal_calls(self):
        numbers, ann = plain(), use_of(House(PLAIN), 'ann')
        for function in (least, greatest):
            told = repr(function(numbers, ann))
            again = Numbers(House(PLAIN), numbers.rows)
            self.assertEqual(repr(function(weighing=use_of(House(PLAIN), 'ann'), numbers=again)), told)
        self.assertEqual(numbers, plain())
        self.assertEqual(ann, use_of(House(PLAIN), 'ann'))

    def test_what_was_returned_may_be_handed_in_again(self):
        for chance, numbers in great_cases(97, 4):
            weighing = Weighing(numbers.house, 0, random_weights(chance, numbers.house, great_amount))
            for _ in range(3):
                low, high = least(numbers, weighing), greatest(numbers, weighing)
                self.check(numbers, weighing, low, high)
                amount = sum(low[2], low[0] * high[0] + 1)
                weighing = (weighing - low[0]) * amount
            self.assertGreater(weighing.constant.under, 10 ** 500)

    def test_bad_weighings(self):
        for numbers in (plain(), contrary()):
            for value in odd_values() + [0, Weighing(House(OTHER)), Weighing(House(SMALL)), numbers, House(PLAIN)]:
                for act in (lambda: least(numbers, value), lambda: greatest(numbers, value),
                            lambda: shows_least(numbers, value, None), lambda: shows_greatest(numbers, value, ())):
                    with self.assertRaises(BadWeighing) as caught:
                        act()
                    self.assertIs(caught.exception.value, value)

    def test_contrary(self):
        weighing = use_of(House(PLAIN), 'ann')
        for value in odd_values() + [least(plain(), weighing)]:
            for act in (lambda: least(contrary(), weighing), lambda: greatest(contrary(), weighing),
                        lambda: shows_least(contrary(), weighing, value),
                        lambda: shows_greatest(contrary(), weighing, value)):
                with self.assertRaises(Contrary) as caught:
                    act()
                self.assertEqual(caught.exception.value, (('a', 2), ('a', 4)))

    def test_the_lot_of_contrary_cannot_be_made_less(self):
        found = 0
        for chance, numbers, uses, fit in small_cases(98, 60, 1):
            if not fit:
                weighing = random_weighing(chance, numbers.house)
                for function in (least, greatest):
                    with self.assertRaises(Contrary) as caught:
                        function(numbers, weighing)
                    rows = numbers.only(caught.exception.value).rows
                    for left in [None] + list(rows):
                        others = [row for row in rows if row != left]
                        good = any(shows_rows(numbers.house, use, others) for use in uses)
                        self.assertIs(good, left is not None)
                found += 1
        self.assertGreater(found, 20)


class ShowsEnds(unittest.TestCase):

    def setUp(self):
        self.house = House(PLAIN)
        self.numbers = plain().put('main', 2, 7)
        self.ann = use_of(self.house, 'ann')

    def test_by_other_hands(self):
        for worth_told in (3, Amount(3), Amount(6, 2)):
            for use in (((3, 0, 3, 2), (2, 2, 0, 0)), ((0, 3, 2, 3), (2, 2, 0, 0))):
                for paper in ((0, -1, 1), (Amount(0), Amount(-1), 1), (0, Amount(-2, 2), Amount(1)), (1, 0, 0)):
                    self.assertIs(shows_least(self.numbers, self.ann, (worth_told, use, paper)), True)
        use = ((3, 3, 1, 1), (1, 0, 1, 2))
        for paper in ((0, 0, 0), (Amount(0), 0, 0)):
            self.assertIs(shows_greatest(self.numbers, self.ann, (6, use, paper)), True)
        self.assertIs(shows_greatest(value=(Amount(6), use, (0, 0, 0)), weighing=self.ann, numbers=self.numbers), True)
        self.assertIs(shows_least(value=(3, ((3, 0, 3, 2), (2, 2, 0, 0)), (0, -1, 1)), weighing=self.ann,
                                  numbers=self.numbers), True)

    def test_spoilt(self):
        use, paper = ((3, 0, 3, 2), (2, 2, 0, 0)), (0, -1, 1)
        highest, zeros = ((3, 3, 1, 1), (1, 0, 1, 2)), (0, 0, 0)
        for function, worth_told, right, told in ((shows_least, 3, use, paper), (shows_greatest, 6, highest, zeros)):
            self.assertIs(function(self.numbers, self.ann, (worth_told, right, told)), True)
            for value in [worth_told - 1, worth_told + 1, -worth_told, Amount(worth_told * 2 + 1, 2), str(worth_told), None,
                          (worth_told,), [worth_told], True, 0, self.ann]:
                self.bad(function, (value, right, told))
            for value in [((3, 1, 2, 2), (2, 1, 1, 0)), ((3, 3, 1, 1), (1, 1, 1, 1)), ((3, 0, 3, 2), (2, 2, 1, 0)), None,
                          list(right), [list(row) for row in right], right[:1], right + right[:1], (right[0], list(right[1])),
                          tuple(tuple(Amount(units) for units in row) for row in right), (), 0, 'use', right[0],
                          tuple(tuple(True if units == 1 else units for units in row) for row in right[:1]) + (None,)]:
                self.bad(function, (worth_told, value, told))
            for value in [(2, 0, 0), (-1, 0, 0), (0, -1, 2), (0, 0, 1), (0, 1, 1), told[:2], told + (0,), list(told), None,
                          (False,) + told[1:], (str(told[0]),) + told[1:], (None,) + told[1:], (), 0, 'abc']:
                self.bad(function, (worth_told, right, value))
            for value in odd_values() + [(worth_told, right), (worth_told, right, told, ()), [worth_told, right, told],
                                         (right, worth_told, told), (worth_told, told, right), 0]:
                self.bad(function, value)

    def bad(self, function, value):
        self.assertIs(function(self.numbers, self.ann, value), False, value)

    def test_true_is_no_worth_and_no_unit(self):
        house = House(SMALL)
        numbers, weighing = Numbers(house, (('a', 1, 1),)), use_of(house, 'house')
        for function in (shows_least, shows_greatest):
            self.assertIs(function(numbers, weighing, (1, ((1,),), (1,))), True)
            self.assertIs(function(numbers, weighing, (Amount(1), ((1,),), (Amount(1),))), True)
            for value in ((True, ((1,),), (1,)), (1, ((True,),), (1,)), (1, ((1,),), (True,)),
                          (1, ((Amount(1),),), (1,)), (1, [[1]], (1,)), (1, ([1],), (1,)), (1, ((1,),), [1])):
                self.assertIs(function(numbers, weighing, value), False)

    def test_a_use_or_a_paper_that_does_not_reach_the_end(self):
        for chance, numbers, uses, fit in small_cases(99, 60):
            weighing = random_weighing(chance, numbers.house)
            low, high = least(numbers, weighing), greatest(numbers, weighing)
            for use in fit[:40]:
                told = worth(weighing, use)
                for amount in (made(told), low[0], high[0]):
                    self.assertIs(shows_least(numbers, weighing, (amount, use, low[2])),
                                  fraction(low[0]) == told == fraction(amount))
                    self.assertIs(shows_greatest(numbers, weighing, (amount, use, high[2])),
                                  fraction(high[0]) == told == fraction(amount))
            for _ in range(10):
                paper = random_paper(chance, numbers)
                lowest, highest = ends_by(numbers, weighing, paper)
                self.assertIs(shows_least(numbers, weighing, (low[0], low[1], paper)), lowest == fraction(low[0]))
                self.assertIs(shows_greatest(numbers, weighing, (high[0], high[1], paper)), highest == fraction(high[0]))
            # A worth that the floor by the paper is, but no use has.
            lowest = made(ends_by(numbers, weighing, paper)[0] - Fraction(1, 7))
            self.assertIs(shows_least(numbers, weighing, (lowest, low[1], low[2])), False)

    def test_uses_that_do_not_fit(self):
        for chance, numbers, uses, fit in small_cases(100, 30):
            weighing = random_weighing(chance, numbers.house)
            low, high = least(numbers, weighing), greatest(numbers, weighing)
            for use in [use for use in uses if use not in fit][:60]:
                told = made(worth(weighing, use))
                for amount in (told, low[0], high[0]):
                    self.assertIs(shows_least(numbers, weighing, (amount, use, low[2])), False)
                    self.assertIs(shows_greatest(numbers, weighing, (amount, use, high[2])), False)

    def test_evidence_of_one_end_is_none_of_the_other(self):
        low, high = least(self.numbers, self.ann), greatest(self.numbers, self.ann)
        self.assertIs(shows_least(self.numbers, self.ann, high), False)
        self.assertIs(shows_greatest(self.numbers, self.ann, low), False)


if __name__ == '__main__':
    unittest.main()
