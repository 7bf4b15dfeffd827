import itertools
import random
import unittest
from fractions import Fraction

from tests.bill_oracle import bills, put_right, random_book
from tests.samples import SMALL, odd_values
from tests.use_lists import all_uses, fraction, random_use, shows_rows, worth
from whoseuse.amounts import Amount
from whoseuse.bills import account, billed
from whoseuse.books import Book
from whoseuse.ends import greatest, least
from whoseuse.errors import BadRun, NoPerson
from whoseuse.houses import House
from whoseuse.rules import Rule
from whoseuse.weighings import Weighing, shown

PLAIN = 'days 4\nflat a 3\nbare stairs 2\nlives ann a 0 2\nlives bob a 2 4'
WAYS = (('before', 'nothing', 0, 3), ('now', 'back'), ('days', 'last'), ('heads', 'places', 'house'))


def rule_of(every, behind='nothing', late='now', block='days', rest='house'):
    return Rule(f'every {every}\nbehind {behind}\nlate {late}\nblock {block}\nrest {rest}')


def all_rules(every):
    return [rule_of(every, *ways) for ways in itertools.product(*WAYS)]


def random_rule(chance):
    return rule_of(chance.choice((1, 2, 3, 4, 5, 7, 14)), *[chance.choice(ways) for ways in WAYS])


def told(text, *acts):
    """A book of these acts: a morning to go to, or (meter, morning, number or None), or (meter, morning) to expect."""
    book = Book(House(text))
    for act in acts:
        if isinstance(act, int):
            book.go(act)
        elif len(act) == 2:
            book.expect(*act)
        elif act[2] is None:
            book.drop(act[0], act[1])
        else:
            book[act[0], act[1]] = act[2]
    return book


def rich_house(chance, days, places, rooms, prices=True):
    kinds = [chance.choice(('flat', 'flat', 'bare')) for _ in range(places)]
    kinds[chance.randrange(places)] = 'flat'
    names = chance.sample(('a', 'b', 'n', 'zz', 'left'), places)
    lines = [f'days {days}'] + [f'{kind} {name} {chance.randint(1, rooms)}' for kind, name in zip(kinds, names)]
    if prices:
        some = sorted(chance.sample(range(days), min(days, chance.randint(0, 3))))
        lines += [f'price {day} {chance.randint(0, 9)}' for day in some]
    stays = []
    for name in names:
        marks = sorted(chance.sample(range(days + 1), min(days + 1, chance.randint(0, 4))))
        stays += [f'lives {chance.choice(("ann", "bob", "cy", "a", "zoe"))} {name} {first} {behind}'
                  for first, behind in zip(marks, marks[1:]) if chance.random() < 0.8]
    return House('\n'.join(lines + chance.sample(stays, min(8, len(stays)))))


def by_cells(make, house):
    """The constant and the weights of what make returns of each use: none, and one unit in each cell."""
    nothing = tuple((0,) * house.days for flat in house.flats)
    base = make(nothing)
    rows = []
    for at in range(len(house.flats)):
        row = []
        for day in range(house.days):
            use = [list(units) for units in nothing]
            use[at][day] = 1
            row.append(make(tuple(tuple(units) for units in use)) - base)
        rows.append(tuple(row))
    return base, tuple(rows)


class Against(unittest.TestCase):
    """Bills against another way to make them."""

    def check(self, book, rule, uses):
        house, runs = book.house, rule.runs(book.house)
        made = {run: billed(book, rule, run) for run in runs}
        for run in runs:
            self.assertIs(made[run].__class__, tuple)
            self.assertEqual([person for person, weighing in made[run]], list(house.people))
        for use in uses:
            charges, slips = bills(book, rule, use)
            for run in runs:
                for person, weighing in made[run]:
                    self.assertIsInstance(weighing, Weighing)
                    self.assertEqual(worth(weighing, use), charges[run, person], (rule.text, book.journal, run, person))
        for at, person in enumerate(house.people):
            total = Weighing(house)
            for run in runs:
                total = total + made[run][at][1]
            self.assertEqual(account(book, rule, person), total)

    def check_as_told(self, book, rule, use):
        """Whether the bills of the runs up to today, as the use that fits has them, are those of the numbers told."""
        charges, slips = bills(book, rule)
        for run in rule.runs(book.house):
            if run <= book.today:
                for person, weighing in billed(book, rule, run):
                    self.assertEqual(worth(weighing, use), charges[run, person])

    def test_great_houses(self):
        chance = random.Random(400)
        for _ in range(60):
            house = rich_house(chance, chance.randint(5, 14), chance.randint(1, 4), 9)
            use = random_use(chance, house)
            book = random_book(chance, Book(house), use, chance.random() < 0.5)
            for _ in range(2):
                self.check(book, random_rule(chance), [use, random_use(chance, house)])
            put_right(book, use)
            rule = random_rule(chance)
            self.check(book, rule, [use])
            self.check_as_told(book, rule, use)

    def test_all_ways(self):
        chance = random.Random(401)
        for every in (1, 2, 3, 4, 14):
            for rule in all_rules(every):
                house = rich_house(chance, chance.randint(4, 9), chance.randint(2, 3), 5)
                use = random_use(chance, house)
                book = random_book(chance, Book(house), use, chance.random() < 0.3)
                self.check(book, rule, [use, random_use(chance, house)])

    def test_cell_by_cell(self):
        chance = random.Random(402)
        for _ in range(25):
            house = rich_house(chance, chance.randint(2, 6), chance.randint(1, 3), 4)
            book = random_book(chance, Book(house), random_use(chance, house), False)
            rule = random_rule(chance)
            person = chance.choice(house.people)
            weighing = account(book, rule, person)
            base, rows = by_cells(lambda use: sum(bills(book, rule, use)[0][run, person] for run in rule.runs(house)), house)
            self.assertEqual(fraction(weighing.constant), base)
            self.assertEqual(tuple(tuple(fraction(weight) for weight in row) for row in weighing.rows), rows)

    def test_one_worth_for_all_uses_that_fit(self):
        chance = random.Random(403)
        many = 0
        for _ in range(40):
            house = rich_house(chance, *chance.choice(((3, 2, 2), (4, 2, 1), (3, 3, 1), (4, 1, 3), (2, 4, 1))))
            use = random_use(chance, house)
            book = random_book(chance, Book(house), use, chance.random() < 0.5)
            put_right(book, use)
            rule, uses = random_rule(chance), all_uses(house)
            fit = [one for one in uses if shows_rows(house, one, book.numbers.rows)]
            charges, slips = bills(book, rule)
            for run in rule.runs(house):
                if run <= book.today:
                    for person, weighing in billed(book, rule, run):
                        self.assertEqual({worth(weighing, one) for one in fit}, {charges[run, person]})
                        many += len(fit) > 1
            for person in house.people:
                if book.today == house.days:
                    weighing = account(book, rule, person)
                    self.assertEqual(least(book.numbers, weighing)[0], greatest(book.numbers, weighing)[0])
        self.assertGreater(many, 50)

    def test_closed(self):
        chance = random.Random(404)
        seen = {True: 0, False: 0}
        for _ in range(60):
            house = rich_house(chance, chance.randint(2, 14), chance.randint(1, 4), 9, False)
            use = random_use(chance, house)
            book = random_book(chance, Book(house), use, False)
            today = book.today
            for meter in house.meters:
                if today < house.days and (meter, house.days) not in book.expected:
                    book.expect(meter, house.days)
            if today == house.days:
                for meter in house.meters:
                    book[meter, house.days] = chance.randint(0, 99)
            total = Weighing(house)
            rule = random_rule(chance)
            for person in house.people:
                total = total + account(book, rule, person)
            self.assertEqual(total, shown(house, 'main', house.days))
            seen[today == house.days] += 1
        self.assertGreater(min(seen.values()), 10)


class Lines(unittest.TestCase):
    """How lines go on, by hand: one flat, one run at the end, all days laid on themselves."""

    def charged(self, behind, *acts, text='days 6\nflat a 9\nbare b 9', every=6, late='now', rest='house'):
        """What is reckoned on each day, told by prices: each day by a text of a house with a price on this day alone."""
        found = []
        for day in range(6):
            prices = [f'price {at} {number}' for at, number in ((0, 0), (day, 1), (day + 1, 0))
                      if at < 6 and not (at == 0 == day and number == 0)]
            book = told('\n'.join([text] + prices), *acts)
            run = (book.today // every) * every
            weighing = dict(billed(book, rule_of(every, behind, late, 'days', rest), run))['house']
            found.append(fraction(least(book.numbers, weighing)[0]))
        return found

    def test_between_and_behind(self):
        acts = (2, ('a', 2, 4), 6, ('a', 4, 5))
        for behind, tail in (('before', Fraction(1, 2)), ('nothing', 0), (0, 0), (7, 7)):
            self.assertEqual(self.charged(behind, *acts), [2, 2, Fraction(1, 2), Fraction(1, 2), tail, tail])

    def test_one_number(self):
        for behind, tail in (('before', 2), ('nothing', 0), (5, 5)):
            self.assertEqual(self.charged(behind, 6, ('a', 3, 6)), [2, 2, 2, tail, tail, tail])

    def test_none(self):
        for behind, tail in (('before', 0), ('nothing', 0), (4, 4)):
            self.assertEqual(self.charged(behind, 6), [tail] * 6)

    def test_a_number_for_the_last_morning(self):
        for behind in ('before', 'nothing', 9):
            self.assertEqual(self.charged(behind, 6, ('a', 6, 3)), [Fraction(1, 2)] * 6)

    def test_numbers_that_fall(self):
        book = told('days 3\nflat a 9', 3, ('a', 1, 4), ('a', 2, 2))
        for behind, worths in (('before', [4, -2, -2]), ('nothing', [4, -2, 0]), (1, [4, -2, 1])):
            slips = bills(book, rule_of(3, behind))[1]
            self.assertEqual([slips[3, 'a', day][1] for day in range(3)], worths)
            weighing = dict(billed(book, rule_of(3, behind), 3))['house']
            # No use fits; the weighing is what the numbers count all the same.
            self.assertEqual(weighing, {
                'before': shown(book.house, 'a', 2) * 2 - shown(book.house, 'a', 1),
                'nothing': shown(book.house, 'a', 2), 1: shown(book.house, 'a', 2) + 1}[behind])

    def test_main_without_a_number(self):
        for behind, tail in (('before', 2), ('nothing', 0), (5, 5)):
            self.assertEqual(self.charged(behind, 6, ('a', 3, 6)), [2, 2, 2, tail, tail, tail])

    def test_main_with_a_number(self):
        # The main meter's line goes on by itself; of the flat nothing is known.
        for behind, days in (('before', [2, 2, 2, 2, 2, 2]), ('nothing', [2, 2, 2, 0, 0, 0]), (5, [2, 2, 2, 5, 5, 5])):
            self.assertEqual(self.charged(behind, 6, ('main', 3, 6)), days)

    def test_less_than_nothing_of_the_rest(self):
        house = 'days 2\nflat a 9\nlives ann a 0 2'
        book = told(house, 2, ('a', 2, 6), ('main', 2, 4))
        for rest, ann, nobody in (('house', 6, -2), ('heads', 4, 0), ('places', 4, 0)):
            charges = bills(book, rule_of(2, rest=rest))[0]
            self.assertEqual((charges[2, 'ann'], charges[2, 'house']), (ann, nobody))
            made = dict(billed(book, rule_of(2, rest=rest), 2))
            use, main = shown(book.house, 'a', 2), shown(book.house, 'main', 2)
            if rest == 'house':
                self.assertEqual((made['ann'], made['house']), (use, main - use))
            else:
                self.assertEqual((made['ann'], made['house']), (main, Weighing(book.house)))


class Laid(unittest.TestCase):

    def test_example_of_unlike_rests_and_blocks(self):
        text = 'days 4\nflat a 3\nbare stairs 2\nlives ann a 0 2\nlives bob a 2 4'
        book = told(text, 4, ('a', 4, 8), ('main', 4, 12))
        for late, block, rest, people in [
                ('back', 'days', 'heads', (6, 6, 0)), ('now', 'days', 'heads', (0, 12, 0)),
                ('back', 'last', 'heads', (6, 6, 0)), ('now', 'last', 'heads', (0, 12, 0)),
                ('back', 'days', 'places', (5, 5, 2)), ('now', 'days', 'house', (0, 8, 4))]:
            accounts = [least(book.numbers, account(book, rule_of(2, 'nothing', late, block, rest), person))[0]
                        for person in book.house.people]
            self.assertEqual(accounts, list(people), (late, block, rest))

    def test_block_last_charges_who_lives_there_on_the_last_day(self):
        book = told('days 4\nflat a 9\nlives ann a 0 3\nlives bob a 3 4', 4, ('a', 4, 8))
        for every, block, ann in ((4, 'days', 6), (4, 'last', 0), (3, 'last', 6), (2, 'last', 4), (1, 'last', 6)):
            weighing = account(book, rule_of(every, 'nothing', 'back', block), 'ann')
            self.assertEqual(least(book.numbers, weighing)[0], ann, (every, block))

    def test_late_now_is_laid_on_the_last_day_ahead_of_the_run(self):
        # Read on morning 4 for the first time: the first two days are put right on day 3, which costs 5.
        book = told('days 4\nflat a 9\nprice 3 5\nlives ann a 0 3\nlives bob a 3 4', 4, ('a', 4, 8))
        accounts = {}
        for late, block in itertools.product(('now', 'back'), ('days', 'last')):
            some = [least(book.numbers, account(book, rule_of(2, 'nothing', late, block), person))[0]
                    for person in book.house.people]
            accounts[late, block] = some
        self.assertEqual(accounts['now', 'days'], [2, 4 * 5 + 2 * 5, 0])
        self.assertEqual(accounts['now', 'last'], [0, 8 * 5, 0])
        self.assertEqual(accounts['back', 'days'], [4 + 2, 2 * 5, 0])
        self.assertEqual(accounts['back', 'last'], [4, 4 * 5, 0])

    def test_late_back_is_laid_where_the_day_was_laid_first(self):
        # Block last: the days 0 and 1 are laid on day 1 for good.
        book = told('days 6\nflat a 9\nprice 1 3\nprice 2 1\nlives ann a 1 2', 6, ('a', 6, 6))
        weighing = account(book, rule_of(2, 1, 'back', 'last'), 'ann')
        self.assertEqual(least(book.numbers, weighing)[0], 6)
        self.assertEqual(weighing['a', 5], 1)

    def test_a_day_between_two_runs_is_new_on_the_later_one(self):
        book = told('days 5\nflat a 9\nlives ann a 4 5', 5, ('a', 5, 5))
        self.assertEqual(least(book.numbers, account(book, rule_of(3, 'nothing', 'back', 'days'), 'ann'))[0], 1)
        self.assertEqual(least(book.numbers, account(book, rule_of(3, 'nothing', 'back', 'last'), 'ann'))[0], 2)
        self.assertEqual(least(book.numbers, account(book, rule_of(3, 'nothing', 'now', 'last'), 'ann'))[0], 5)


class Rest(unittest.TestCase):
    HOUSE = ('days 3\nflat a 9\nflat b 9\nbare c 9\nlives ann a 0 2\nlives ann b 0 1\nlives bob b 1 2\nlives bob c 0 1')

    def shares(self, rest, day):
        """What all people pay, if 6 units are used in the bare place on this day, and nothing else."""
        book = told(self.HOUSE, 3, ('main', day + 1, 6), ('main', 3, 6), ('a', 3, 0), ('b', 3, 0))
        if day:
            book['main', day] = 0
        use = ((0, 0, 0), (0, 0, 0), tuple(6 if at == day else 0 for at in range(3)))
        self.assertTrue(shows_rows(book.house, use, book.numbers.rows))
        return tuple(worth(account(book, rule_of(3, rest=rest), person), use) for person in book.house.people)

    def test_all_rests(self):
        # Day 0: ann lives in two places, bob in the bare one; day 1: nobody in the bare one; day 2: nobody at all.
        for rest, shares in (('heads', [(3, 3, 0), (3, 3, 0), (0, 0, 6)]), ('places', [(4, 2, 0), (2, 2, 2), (0, 0, 6)]),
                             ('house', [(0, 0, 6), (0, 0, 6), (0, 0, 6)])):
            for day in range(3):
                self.assertEqual(self.shares(rest, day), shares[day], (rest, day))

    def test_weights(self):
        book = told(self.HOUSE, 3, ('main', 1, 9))
        for rest, people in (('heads', (Amount(1, 2), Amount(1, 2), 0)), ('places', (Amount(2, 3), Amount(1, 3), 0)),
                             ('house', (0, 0, 1))):
            made = [account(book, rule_of(3, rest=rest), person) for person in book.house.people]
            self.assertEqual(tuple(weighing['c', 0] for weighing in made), people)
            self.assertEqual([weighing['c', 1] for weighing in made], [0, 0, 0])

    def test_nobody_anywhere(self):
        book = told('days 2\nflat a 3\nbare b 2', 2, ('a', 2, 4), ('main', 2, 6))
        for rest in ('heads', 'places', 'house'):
            self.assertEqual(account(book, rule_of(1, rest=rest), 'house'), shown(book.house, 'main', 2))


class Known(unittest.TestCase):
    TEXT = 'days 8\nflat a 9\nlives ann a 0 4\nlives bob a 4 8'

    def account(self, book, every=4, behind='before', late='now'):
        return account(book, rule_of(every, behind, late), 'ann')

    def test_put_right_behind_the_run(self):
        book = told(self.TEXT, 2, ('a', 2, 5), 5, ('a', 2, 4), 8, ('a', 8, 12))
        self.assertEqual(self.account(book), Weighing(book.house, 10))
        self.assertEqual(account(book, rule_of(4, 'before', 'back'), 'ann').constant, 0)

    def test_put_right_on_the_morning_of_the_run(self):
        book = told(self.TEXT, 2, ('a', 2, 5), 4, ('a', 2, 4), 8, ('a', 8, 12))
        self.assertEqual(self.account(book), shown(book.house, 'a', 2) * 2)

    def test_put_wrong_and_right_again(self):
        # On the run, the number was the one that stands now.
        book = told(self.TEXT, 2, ('a', 2, 5), 5, ('a', 2, 4), 6, ('a', 2, 5))
        self.assertEqual(dict(billed(book, rule_of(4, 'before'), 4))['ann'], shown(book.house, 'a', 2) * 2)

    def test_taken_back_behind_the_run(self):
        book = told(self.TEXT, 2, ('a', 2, 5), 5, ('a', 2, None))
        self.assertEqual(dict(billed(book, rule_of(4, 'before'), 4))['ann'], Weighing(book.house, 10))
        # And told again, late: it counts as what it counts, once more.
        book['a', 2] = 5
        self.assertEqual(dict(billed(book, rule_of(4, 'before'), 4))['ann'], shown(book.house, 'a', 2) * 2)

    def test_taken_back_on_the_morning_of_the_run(self):
        book = told(self.TEXT, 4, ('a', 2, 5), ('a', 2, None))
        self.assertEqual(dict(billed(book, rule_of(4, 'before'), 4))['ann'], Weighing(book.house))

    def test_told_late(self):
        book = told(self.TEXT, 5, ('a', 2, 5), 8)
        self.assertEqual(dict(billed(book, rule_of(4, 'before'), 4))['ann'], Weighing(book.house))
        self.assertEqual(dict(billed(book, rule_of(4, 'before', 'back'), 8))['ann'], shown(book.house, 'a', 2) * 2)
        self.assertEqual(dict(billed(book, rule_of(4, 'before', 'now'), 8))['ann'], Weighing(book.house))
        self.assertEqual(dict(billed(book, rule_of(4, 'before', 'now'), 8))['bob'], shown(book.house, 'a', 2) * 4)

    def test_told_on_the_morning_of_the_run_in_whatever_sequence(self):
        for acts in itertools.permutations([('a', 4, 8), ('a', 2, 5), ('main', 4, 9)]):
            book = told(self.TEXT, 4, *acts)
            self.assertEqual(dict(billed(book, rule_of(4, 'before'), 4))['ann'], shown(book.house, 'a', 4))
            self.assertEqual(dict(billed(book, rule_of(4, 'before'), 4))['house'],
                             shown(book.house, 'main', 4) - shown(book.house, 'a', 4))

    def test_runs_behind_today(self):
        book = told(self.TEXT, 2, ('a', 2, 5))
        self.assertEqual(self.account(book), shown(book.house, 'a', 2) * 2)
        self.assertEqual(dict(billed(book, rule_of(4, 'before'), 8))['bob'], shown(book.house, 'a', 2) * 2)
        book.expect('a', 4)
        book.expect('a', 7)
        self.assertEqual(dict(billed(book, rule_of(4, 'nothing'), 4))['ann'], shown(book.house, 'a', 4))
        self.assertEqual(dict(billed(book, rule_of(4, 'nothing'), 8))['bob'],
                         shown(book.house, 'a', 7) - shown(book.house, 'a', 4))
        book.expect('a', 3)
        self.assertEqual(dict(billed(book, rule_of(4, 'nothing'), 4))['ann'], shown(book.house, 'a', 4))
        self.assertEqual(dict(billed(book, rule_of(3, 'nothing'), 3))['ann'], shown(book.house, 'a', 3))

    def test_expected_for_a_morning_behind_the_run_is_not_known(self):
        book = told(self.TEXT, 1, ('a', 5))
        self.assertEqual(dict(billed(book, rule_of(4, 'before'), 4))['ann'], Weighing(book.house))
        bob = dict(billed(book, rule_of(4, 'nothing', 'now'), 8))['bob']
        self.assertEqual(bob, shown(book.house, 'a', 5))

    def test_expected_for_today_is_not_known_today(self):
        book = told(self.TEXT, 1, ('a', 4), 4)
        self.assertEqual(book.expected, (('a', 4),))
        self.assertEqual(dict(billed(book, rule_of(4, 'before'), 4))['ann'], Weighing(book.house))
        # But on a run behind today, it is.
        self.assertEqual(dict(billed(book, rule_of(8, 'nothing'), 8))['ann'], shown(book.house, 'a', 4))

    def test_expected_and_gone_by(self):
        book = told(self.TEXT, 1, ('a', 4), 5)
        self.assertEqual(account(book, rule_of(4, 'before'), 'ann'), Weighing(book.house))

    def test_a_number_of_today_on_a_run_behind_today(self):
        book = told(self.TEXT, 3, ('a', 3, 6))
        self.assertEqual(dict(billed(book, rule_of(4, 'nothing'), 4))['ann'], shown(book.house, 'a', 3))


class Asked(unittest.TestCase):

    def test_by_name_and_again(self):
        book, rule = told(PLAIN, 4, ('a', 4, 8), ('main', 4, 12)), rule_of(2, 'before', 'back', 'last', 'heads')
        journal = book.journal
        self.assertEqual(account(person='ann', rule=rule, book=book), account(book, rule, 'ann'))
        self.assertEqual(billed(run=4, rule=rule, book=book), billed(book.copy(), Rule(rule.text), 4))
        self.assertEqual(book.journal, journal)

    def test_bad_runs(self):
        book = told(PLAIN, 1)
        for value in odd_values() + [0, 1, 3, 5, -2, 6, Amount(2), Amount(4), '2', (2,), (2, 4)]:
            with self.assertRaises(BadRun) as caught:
                billed(book, rule_of(2), value)
            self.assertIs(caught.exception.value, value)
        for run in (2, 4):
            self.assertEqual(len(billed(book, rule_of(2), run)), 3)
        with self.assertRaises(BadRun):
            billed(book, rule_of(14), 2)
        for value in (True, Amount(1)):
            with self.assertRaises(BadRun):
                billed(book, rule_of(1), value)

    def test_no_persons(self):
        for value in odd_values() + ['zoe', 'stairs', 'a', 'main', 'rest', 'Ann', ('ann',), ['ann'], 0]:
            with self.assertRaises(NoPerson) as caught:
                account(told(PLAIN, 1), rule_of(2), value)
            self.assertIs(caught.exception.value, value)

    def test_a_small_house(self):
        book = told(SMALL, 1, ('a', 1, 1))
        for rule in all_rules(1):
            self.assertEqual(billed(book, rule, 1), (('house', account(book, rule, 'house')),))
        self.assertEqual(account(book, rule_of(1), 'house'), shown(book.house, 'a', 1))

    def test_contrary_numbers_are_billed_all_the_same(self):
        book = told(PLAIN, 4, ('a', 2, 9), ('a', 4, 1), ('main', 4, 9999))
        self.assertEqual(account(book, rule_of(4), 'house'), shown(book.house, 'main', 4) - shown(book.house, 'a', 4))

    def test_what_was_told_stays_while_the_book_goes_on(self):
        book = told(PLAIN, 2, ('a', 2, 4))
        weighing = account(book, rule_of(2), 'ann')
        rows = weighing.rows
        book.go(4)
        book['a', 2] = 1
        self.assertEqual(weighing.rows, rows)


if __name__ == '__main__':
    unittest.main()
