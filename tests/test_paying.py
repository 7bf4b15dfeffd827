import random
import unittest
from fractions import Fraction

from tests.bill_oracle import bills, put_right, random_book
from tests.samples import SMALL, odd_values, without
from tests.test_bills import random_rule, rich_house, rule_of, told
from tests.use_lists import all_uses, ends_by, fraction, random_use, shows_rows, worth
from whoseuse.amounts import Amount
from whoseuse.bills import account
from whoseuse.books import Book
from whoseuse.ends import ceiling, floor, greatest, least
from whoseuse.errors import BadAmount, Contrary, NoPerson
from whoseuse.houses import House
from whoseuse.paying import alike, fair, off, pays, shows_alike, shows_fair
from whoseuse.rules import Rule
from whoseuse.weighings import Weighing, cost_of, use_of

PLAIN = 'days 4\nflat a 3\nbare stairs 2\nlives ann a 0 2\nlives bob a 2 4'
PEOPLE = ('ann', 'bob')


def plain():
    return told(PLAIN, 4, ('a', 4, 8), ('main', 4, 12))


def contrary():
    return told(PLAIN, 4, ('a', 2, 9), ('main', 4, 12))


def back():
    return rule_of(4, 'nothing', 'back', 'days', 'heads')


def lived_cells(house, use, person):
    """(place, day, units) of the cells in which this person lives."""
    return [(at, day, units) for at, row in enumerate(use) for day, units in enumerate(row)
            if house.lives(house.flats[at][0], day) == person]


def paid_too_much(book, rule, person, use):
    """By how much, by fractions."""
    charges = bills(book, rule, use)[0]
    cost = sum(units * book.house.price(day) for at, day, units in lived_cells(book.house, use, person))
    return sum(charges[run, person] for run in rule.runs(book.house)) - cost


def small_cases(seed, many):
    """(chance, book, uses that fit) of small houses."""
    chance = random.Random(seed)
    for _ in range(many):
        house = rich_house(chance, *chance.choice(((3, 2, 2), (4, 2, 1), (3, 3, 1), (4, 1, 3), (2, 4, 1), (5, 1, 2))))
        use = random_use(chance, house)
        book = random_book(chance, Book(house), use, chance.random() < 0.5)
        put_right(book, use)
        yield chance, book, [one for one in all_uses(house) if shows_rows(house, one, book.numbers.rows)]


def great_cases(seed, many):
    chance = random.Random(seed)
    for _ in range(many):
        house = rich_house(chance, chance.randint(9, 14), chance.randint(1, 4), 9)
        use = random_use(chance, house)
        book = random_book(chance, Book(house), use, chance.random() < 0.5)
        put_right(book, use)
        yield chance, book


class OffAndPays(unittest.TestCase):

    def test_off(self):
        for chance, book in great_cases(500, 30):
            rule = random_rule(chance)
            for person in book.house.people:
                weighing = off(book, rule, person)
                self.assertEqual(weighing, account(book, rule, person) - cost_of(book.house, person))
                for _ in range(3):
                    use = random_use(chance, book.house)
                    self.assertEqual(worth(weighing, use), paid_too_much(book, rule, person, use))

    def test_pays(self):
        for chance, book in great_cases(501, 30):
            rule, house = random_rule(chance), book.house
            for payer in house.people:
                owed, total = account(book, rule, payer), Weighing(house)
                for user in house.people:
                    weighing = pays(book, rule, payer, user)
                    self.assertIsInstance(weighing, Weighing)
                    self.assertEqual(weighing.constant, 0)
                    for (name, room, inner), row, weights in zip(house.flats, owed.rows, weighing.rows):
                        for day in range(house.days):
                            there = house.lives(name, day) == user
                            self.assertEqual(weights[day], row[day] if there else 0)
                    total = total + weighing
                # What a payer pays of all people's use, and the constant, come to the account.
                self.assertEqual(total + owed.constant, owed)

    def test_by_hand(self):
        book, rule = plain(), back()
        for weighing, low, high in [(off(book, rule, 'ann'), 0, 4), (off(book, rule, 'bob'), 0, 4), (off(book, rule, 'house'), -4, -4),
                                    (pays(book, rule, 'ann', 'ann'), 1, 3), (pays(book, rule, 'ann', 'bob'), 1, 3),
                                    (pays(book, rule, 'ann', 'house'), 2, 2), (pays(book, rule, 'house', 'ann'), 0, 0),
                                    (pays(book, rule, 'house', 'house'), 0, 0)]:
            self.assertEqual((least(book.numbers, weighing)[0], greatest(book.numbers, weighing)[0]), (low, high))

    def test_the_use_of_others_can_make_a_bill_less(self):
        # The stairs are reckoned as the main meter less the flat: more use in the flat, less to pay for the rest.
        book = told('days 4\nflat a 3\nbare stairs 9\nlives ann a 0 4', 4, ('a', 2, 3), ('main', 4, 12))
        rule = rule_of(4, 'before', 'now', 'days', 'house')
        self.assertEqual(pays(book, rule, 'house', 'ann')['a', 0], -1)
        self.assertEqual(pays(book, rule, 'house', 'ann')['a', 3], 1)
        self.assertEqual(pays(book, rule, 'house', 'house')['stairs', 3], 1)
        self.assertEqual(pays(book, rule, 'ann', 'house'), Weighing(book.house))
        self.assertEqual(pays(book, rule, 'ann', 'ann')['a', 1], 2)

    def test_a_constant_is_nobodys_use(self):
        book = told('days 8\nflat a 9\nlives ann a 0 4\nlives bob a 4 8', 2, ('a', 2, 5), 5, ('a', 2, 4), 8, ('a', 8, 12))
        rule = rule_of(4, 'before', 'now', 'days', 'house')
        self.assertEqual(account(book, rule, 'ann'), Weighing(book.house, 10))
        for user in ('ann', 'bob', 'house'):
            self.assertEqual(pays(book, rule, 'ann', user), Weighing(book.house))
        self.assertEqual(off(book, rule, 'ann'), 10 - use_of(book.house, 'ann'))

    def test_by_name(self):
        book, rule = plain(), back()
        self.assertEqual(off(person='ann', rule=rule, book=book), off(book, rule, 'ann'))
        self.assertEqual(pays(user='bob', payer='ann', rule=rule, book=book), pays(book, rule, 'ann', 'bob'))
        self.assertNotEqual(pays(book, rule, 'ann', 'bob'), pays(book, rule, 'bob', 'ann'))

    def test_no_persons(self):
        for book in (plain(), contrary()):
            for value in odd_values() + ['zoe', 'stairs', 'a', 'main', 'rest', 'Ann', ('ann',), ['ann'], 0]:
                for act in (lambda: off(book, back(), value), lambda: pays(book, back(), value, 'ann'),
                            lambda: pays(book, back(), 'ann', value), lambda: pays(book, back(), value, 'zoe'),
                            lambda: pays(book, back(), value, None)):
                    with self.assertRaises(NoPerson) as caught:
                        act()
                    self.assertIs(caught.exception.value, value)


class Fair(unittest.TestCase):

    def check(self, book, rule, amount, result):
        """Whether the result is right, by what it tells alone; returns its word."""
        self.assertIs(shows_fair(book, rule, amount, result), True)
        self.assertIs(result.__class__, tuple)
        if result[0] == 'fair':
            word, rows = result
            self.assertIs(rows.__class__, tuple)
            self.assertEqual([person for person, paper in rows], [one for one in book.house.people if one != 'house'])
            for person, paper in rows:
                self.assertTrue(all(isinstance(one, Amount) for one in paper))
                self.assertLessEqual(ends_by(book.numbers, off(book, rule, person), paper)[1], fraction(amount))
        else:
            word, person, use = result
            self.assertEqual(word, 'unfair')
            self.assertIn(person, book.house.people)
            self.assertNotEqual(person, 'house')
            self.assertTrue(book.house.is_use(use) and shows_rows(book.house, use, book.numbers.rows))
            self.assertGreater(paid_too_much(book, rule, person, use), fraction(amount))
        return word

    def test_small_houses(self):
        seen = {'fair': 0, 'unfair': 0}
        for chance, book, uses in small_cases(502, 40):
            rule = random_rule(chance)
            people = [person for person in book.house.people if person != 'house']
            weighings = [off(book, rule, person) for person in people]
            worths = [worth(weighing, use) for weighing in weighings for use in uses]
            most = max(worths, default=Fraction(0))
            edge = Amount(most.numerator, most.denominator)
            for amount in (edge, edge - Amount(1, 999), edge + 1, edge - 3, 0, -5, 100):
                word = self.check(book, rule, amount, fair(book, rule, amount))
                self.assertEqual(word, 'unfair' if any(one > fraction(amount) for one in worths) else 'fair')
                seen[word] += 1
        self.assertGreater(min(seen.values()), 60)

    def test_great_houses(self):
        seen = {'fair': 0, 'unfair': 0}
        for chance, book in great_cases(503, 25):
            rule = random_rule(chance)
            people = [person for person in book.house.people if person != 'house']
            ends = [greatest(book.numbers, off(book, rule, person))[0] for person in people]
            for amount in ends + [one - Amount(1, 10 ** 9) for one in ends] + [0, 10 ** 8]:
                word = self.check(book, rule, amount, fair(book, rule, amount))
                self.assertEqual(word, 'unfair' if any(one > amount for one in ends) else 'fair')
                seen[word] += 1
        self.assertGreater(min(seen.values()), 20)

    def test_by_hand(self):
        for amount, word in ((4, 'fair'), (Amount(4), 'fair'), (Amount(15, 4), 'unfair'), (3, 'unfair'), (-9, 'unfair'), (9, 'fair')):
            self.assertEqual(self.check(plain(), back(), amount, fair(plain(), back(), amount)), word)

    def test_nobody_but_house(self):
        book = told(SMALL, 1, ('a', 1, 1))
        for amount in (-10 ** 8, 0, Amount(1, 2)):
            self.assertEqual(fair(book, rule_of(1, 9), amount), ('fair', ()))
            self.assertIs(shows_fair(book, rule_of(1, 9), amount, ('fair', ())), True)
            self.assertIs(shows_fair(book, rule_of(1, 9), amount, ('unfair', 'house', ((1,),))), False)

    def test_house_may_pay_too_much(self):
        book = told(PLAIN, 4, ('main', 4, 20), ('a', 4, 12))
        rule = rule_of(4, 'nothing', 'back', 'days', 'house')
        self.assertEqual(self.check(book, rule, 0, fair(book, rule, 0)), 'fair')
        book = told(PLAIN + '\nlives zoe stairs 0 4', 4, ('main', 4, 20), ('a', 4, 12))
        self.assertEqual(greatest(book.numbers, off(book, rule, 'house'))[0], 8)
        self.assertEqual(self.check(book, rule, 0, fair(book, rule, 0)), 'fair')

    def test_bad_amounts(self):
        for book in (plain(), contrary()):
            for value in without(odd_values(), (int, Amount)):
                for act in (lambda: fair(book, back(), value), lambda: shows_fair(book, back(), value, None)):
                    with self.assertRaises(BadAmount) as caught:
                        act()
                    self.assertIs(caught.exception.value, value)

    def test_contrary(self):
        for value in odd_values() + [('fair', (('ann', (0, 0)), ('bob', (0, 0))))]:
            for act in (lambda: fair(contrary(), back(), 4), lambda: shows_fair(contrary(), back(), 4, value),
                        lambda: alike(contrary(), back(), back()), lambda: shows_alike(contrary(), back(), back(), value)):
                with self.assertRaises(Contrary) as caught:
                    act()
                self.assertEqual(caught.exception.value, (('a', 2),))
        book = told(SMALL, 1, ('a', 1, 2))
        for act in (lambda: fair(book, back(), 0), lambda: shows_fair(book, back(), 0, ('fair', ())),
                    lambda: alike(book, back(), back())):
            with self.assertRaises(Contrary):
                act()

    def test_by_name_and_again(self):
        book, rule, journal = plain(), back(), plain().journal
        for amount in (3, 4):
            result = fair(amount=amount, rule=rule, book=book)
            self.assertEqual(repr(result), repr(fair(book.copy(), Rule(rule.text), Amount(amount))))
            self.assertIs(shows_fair(value=result, amount=amount, rule=rule, book=book), True)
        self.assertEqual(book.journal, journal)


class ShowsFair(unittest.TestCase):

    def test_by_other_hands(self):
        book = plain()
        self.assertEqual(book.numbers.stretches, (('main', 0, 4, 12), ('a', 0, 4, 8)))
        for paper in ((Amount(1, 2), -1 + Amount(1, 2)), (Amount(1, 2), Amount(-1, 2)), (Amount(1, 2), 0)):
            high = ceiling(book.numbers, off(book, back(), 'ann'), paper)
            for amount in (high, high + 1, high + Amount(1, 9)):
                self.assertIs(shows_fair(book, back(), amount, ('fair', (('ann', paper), ('bob', paper)))), True)
            self.assertIs(shows_fair(book, back(), high - Amount(1, 10 ** 9), ('fair', (('ann', paper), ('bob', paper)))), False)
        for person, use in (('ann', ((1, 1, 3, 3), (1, 1, 1, 1))), ('bob', ((3, 3, 2, 0), (2, 0, 0, 2)))):
            self.assertIs(shows_fair(book, back(), 3, ('unfair', person, use)), True)
            self.assertIs(shows_fair(book, back(), 4, ('unfair', person, use)), False)
        # 6 units are bob's own and 2 are ann's: it is ann who pays too much, and not bob.
        self.assertIs(shows_fair(book, back(), 3, ('unfair', 'bob', ((1, 1, 3, 3), (1, 1, 1, 1)))), False)
        self.assertIs(shows_fair(book, back(), -5, ('unfair', 'house', ((1, 1, 3, 3), (1, 1, 1, 1)))), False)

    def test_fair_spoilt(self):
        book, rule = plain(), back()
        word, rows = fair(book, rule, 4)
        (ann, paper), (bob, other) = rows
        right = [(word, rows), ('fair', tuple((person, tuple(one.number if one.under == 1 else one for one in told_paper))
                                              for person, told_paper in rows))]
        for value in right:
            self.assertIs(shows_fair(book, rule, 4, value), True)
        wrong = [(), rows[:1], rows[::-1], rows + rows[-1:], rows + (('house', (1, 0)),), list(rows), None, (list(rows[0]), rows[1]),
                 (('ann', paper), ('ann', paper)), ((ann, paper), ('zoe', other)), ((ann, paper, paper), (bob, other)), 0,
                 ((ann, paper), (bob,)), ((ann, paper), bob), ((ann, list(paper)), (bob, other)), ((ann, None), (bob, other)),
                 ((ann, paper), (bob, (0, 0))), ((ann, (1, 0)), (bob, other)), ((ann, paper[:1]), (bob, other)),
                 ((ann, paper + (0,)), (bob, other)), ((ann, (True, 0)), (bob, other)), ((ann, ('0', '0')), (bob, other)),
                 ((paper, ann), (other, bob)), {ann: paper, bob: other}, ((None, paper), (bob, other)), ((ann, paper), (bob, ()))]
        for value in wrong:
            self.assertIs(shows_fair(book, rule, 4, ('fair', value)), False, value)
        for value in odd_values() + [('fair',), ('fair', rows, ()), ['fair', rows], ('Fair', rows), ('unfair', rows), (rows, 'fair'),
                                     (True, rows), ('alike', rows), ('unfair', 'ann', rows), (['fair'], rows), 0]:
            self.assertIs(shows_fair(book, rule, 4, value), False, value)
        self.assertIs(shows_fair(book, rule, Amount(7, 2), (word, rows)), False)

    def test_unfair_spoilt(self):
        book, rule = plain(), back()
        use = ((1, 1, 3, 3), (1, 1, 1, 1))
        self.assertIs(shows_fair(book, rule, 3, ('unfair', 'ann', use)), True)
        for person in ['bob', 'house', 'zoe', None, 0, True, ('ann',), ['ann'], '', {}, House(PLAIN)]:
            self.assertIs(shows_fair(book, rule, 3, ('unfair', person, use)), False, person)
        for one in [((2, 2, 2, 2), (1, 1, 1, 1)), ((1, 1, 3, 3), (1, 1, 1, 2)), ((0, 0, 3, 3), (1, 1, 1, 1)), None, (), list(use), 0,
                    ((True, 1, 3, 3), (1, 1, 1, 1)), ((Amount(1), 1, 3, 3), (1, 1, 1, 1)), use[:1], [list(row) for row in use]]:
            self.assertIs(shows_fair(book, rule, 3, ('unfair', 'ann', one)), False, one)
        for value in [('unfair', use, 'ann'), ('unfair', 'ann'), ('unfair', 'ann', use, ()), ['unfair', 'ann', use], ('ann', use),
                      ('fair', 'ann', use), (None, 'ann', use), ('unfair', ('ann', use)), ('unlike', 'ann', use)]:
            self.assertIs(shows_fair(book, rule, 3, value), False, value)


class Alike(unittest.TestCase):

    def check(self, book, one, other, result):
        """Whether the result is right, by what it tells alone; returns its word."""
        self.assertIs(shows_alike(book, one, other, result), True)
        self.assertIs(result.__class__, tuple)
        if result[0] == 'alike':
            word, rows = result
            self.assertIs(rows.__class__, tuple)
            self.assertEqual([row[0] for row in rows], list(book.house.people))
            for person, low, high in rows:
                parting = account(book, one, person) - account(book, other, person)
                self.assertTrue(all(isinstance(amount, Amount) for amount in low + high))
                self.assertEqual(floor(book.numbers, parting, low), 0)
                self.assertEqual(ceiling(book.numbers, parting, high), 0)
        else:
            word, person, use = result
            self.assertEqual(word, 'unlike')
            self.assertIn(person, book.house.people)
            self.assertTrue(book.house.is_use(use) and shows_rows(book.house, use, book.numbers.rows))
            self.assertNotEqual(paid_too_much(book, one, person, use), paid_too_much(book, other, person, use))
        return word

    def test_small_houses(self):
        seen = {'alike': 0, 'unlike': 0}
        for chance, book, uses in small_cases(504, 90):
            one = random_rule(chance)
            lines = one.text.split('\n')
            for at in chance.choice(((0,), (1,), (2,), (3,), (4,), (0, 1, 2, 3, 4))):
                lines[at] = random_rule(chance).text.split('\n')[at]
            other = Rule('\n'.join(lines))
            partings = [off(book, one, person) - off(book, other, person) for person in book.house.people]
            told_same = all(worth(parting, use) == 0 for parting in partings for use in uses)
            word = self.check(book, one, other, alike(book, one, other))
            self.assertEqual(word, 'alike' if told_same else 'unlike')
            self.assertEqual(self.check(book, other, one, alike(book, other, one)), word)
            seen[word] += 1
        self.assertGreater(min(seen.values()), 10, seen)

    def test_great_houses(self):
        for chance, book in great_cases(505, 20):
            one, other = random_rule(chance), random_rule(chance)
            self.check(book, one, other, alike(book, one, other))
            self.assertEqual(self.check(book, one, Rule(one.text), alike(book, one, Rule(one.text))), 'alike')

    def test_rules_that_differ_in_one_line(self):
        book = told('days 8\nflat a 9\nbare b 9\nprice 3 2\nlives ann a 0 3\nlives bob a 3 8', 3, ('a', 3, 6), 5, ('main', 5, 20),
                    ('a', 2, 1), 8, ('a', 8, 30))
        first = rule_of(2, 'before', 'back', 'days', 'heads')
        for other in (rule_of(2, 'nothing', 'back', 'days', 'heads'), rule_of(2, 'before', 'now', 'days', 'heads'),
                      rule_of(2, 'before', 'back', 'last', 'heads'), rule_of(2, 'before', 'back', 'days', 'house')):
            self.assertEqual(self.check(book, first, other, alike(book, first, other)), 'unlike')
        one, other = rule_of(2, 'before', 'back', 'last', 'heads'), rule_of(8, 'before', 'back', 'last', 'heads')
        self.assertEqual(self.check(book, one, other, alike(book, one, other)), 'unlike')
        # With late back and block days, it comes to the same how often bills are made.
        for every in range(1, 15):
            other = rule_of(every, 'before', 'back', 'days', 'heads')
            self.assertEqual(self.check(book, first, other, alike(book, first, other)), 'alike')

    def test_alike_by_what_the_numbers_tell_alone(self):
        # All is used on the first day: then it is the same whether it is reckoned by days, or not.
        house = 'days 2\nflat a 4\nlives ann a 0 1'
        one, other = rule_of(1, 'nothing', 'back', 'days'), rule_of(2, 'nothing', 'back', 'last')
        book = told(house, 2, ('a', 2, 0))
        self.assertEqual(self.check(book, one, other, alike(book, one, other)), 'alike')
        book = told(house, 2, ('a', 2, 1))
        self.assertEqual(self.check(book, one, other, alike(book, one, other)), 'unlike')

    def test_only_one_end_is_not_nought(self):
        # Expected, and not known yet: the difference is 0 at one end alone, on either side.
        house = 'days 2\nflat a 4\nlives ann a 0 1\nlives bob a 1 2'
        one, other = rule_of(2, 'nothing', 'back', 'days'), rule_of(2, 'nothing', 'back', 'last')
        book = told(house, ('a', 2))
        for first, second in ((one, other), (other, one)):
            word, person, use = alike(book, first, second)
            self.assertEqual((word, self.check(book, first, second, (word, person, use))), ('unlike', 'unlike'))
            for bad in (((0, 0),), ((0, 5),), None):
                self.assertIs(shows_alike(book, first, second, ('unlike', person, bad)), False)

    def test_by_name_and_again(self):
        book, one, other = plain(), back(), rule_of(4, 'nothing', 'back', 'days', 'places')
        for second in (one, other):
            result = alike(other=second, one=one, book=book)
            self.assertEqual(repr(result), repr(alike(book.copy(), Rule(one.text), Rule(second.text))))
            self.assertIs(shows_alike(value=result, other=second, one=one, book=book), True)
        self.assertEqual(book.journal, plain().journal)


class ShowsAlike(unittest.TestCase):

    def setUp(self):
        self.book = plain()
        self.one, self.other = back(), rule_of(4, 'nothing', 'now', 'days', 'heads')
        self.unlike = rule_of(4, 'nothing', 'now', 'last', 'heads')

    def test_alike_spoilt(self):
        word, rows = alike(self.book, self.one, self.other)
        self.assertEqual(word, 'alike')
        nought = tuple((person, (0, 0), (Amount(0), 0)) for person in ('ann', 'bob', 'house'))
        for value in (rows, nought):
            self.assertIs(shows_alike(self.book, self.one, self.other, ('alike', value)), True)
        ann, bob, house = nought
        wrong = [(), nought[:2], nought[::-1], nought + (house,), (ann, bob), list(nought), None, 0, (ann, ann, house),
                 (('zoe',) + ann[1:], bob, house), (ann[:2], bob, house), (ann + ((0, 0),), bob, house), (list(ann), bob, house),
                 (ann, bob, ('house', (1, 0), (0, 0))), (ann, bob, ('house', (0, 0), (1, 0))), (ann, ('bob', (0, 0), (0, -1)), house),
                 (('ann', (0, Amount(1, 9)), (0, 0)), bob, house), (('ann', [0, 0], (0, 0)), bob, house),
                 (('ann', (0, 0), (0,)), bob, house), (('ann', (0, 0, 0), (0, 0)), bob, house), (('ann', (False, 0), (0, 0)), bob, house),
                 (('ann', (0, 0), (0, '0')), bob, house), (('ann', (0, 0), None), bob, house), ((None, (0, 0), (0, 0)), bob, house)]
        for value in wrong:
            self.assertIs(shows_alike(self.book, self.one, self.other, ('alike', value)), False, value)
        for value in odd_values() + [('alike',), ('alike', nought, ()), ['alike', nought], ('unlike', nought), (nought, 'alike'),
                                     ('fair', nought), (None, nought), 0, (['alike'], nought)]:
            self.assertIs(shows_alike(self.book, self.one, self.other, value), False, value)
        self.assertIs(shows_alike(self.book, self.one, self.unlike, ('alike', nought)), False)

    def test_unlike_spoilt(self):
        use = ((2, 2, 2, 2), (1, 1, 1, 1))
        for person in ('ann', 'bob'):
            self.assertIs(shows_alike(self.book, self.one, self.unlike, ('unlike', person, use)), True)
        for person in ['house', 'zoe', None, 0, True, ('ann',), ['ann'], '', {}]:
            self.assertIs(shows_alike(self.book, self.one, self.unlike, ('unlike', person, use)), False, person)
        for one in [((2, 2, 2, 1), (1, 1, 1, 1)), ((2, 2, 2, 2), (1, 1, 1, 2)), None, (), list(use), 0, use[:1],
                    ((2, 2, 2, 2), (True, 1, 1, 1)), ((2, 2, 2, 2), (Amount(1), 1, 1, 1))]:
            self.assertIs(shows_alike(self.book, self.one, self.unlike, ('unlike', 'ann', one)), False, one)
        for value in odd_values() + [('unlike', use, 'ann'), ('unlike', 'ann'), ('unlike', 'ann', use, ()), ['unlike', 'ann', use],
                                     ('alike', 'ann', use), ('ann', use), (None, 'ann', use), ('unfair', 'ann', use)]:
            self.assertIs(shows_alike(self.book, self.one, self.unlike, value), False, value)
        self.assertIs(shows_alike(self.book, self.one, self.other, ('unlike', 'ann', use)), False)

    def test_house_can_be_the_one(self):
        use = ((2, 2, 2, 2), (1, 1, 1, 1))
        third = rule_of(4, 'nothing', 'back', 'days', 'house')
        for person in ('ann', 'bob', 'house'):
            self.assertIs(shows_alike(self.book, self.one, third, ('unlike', person, use)), True)
        self.assertIn(alike(self.book, self.one, third)[1], PEOPLE + ('house',))


if __name__ == '__main__':
    unittest.main()
