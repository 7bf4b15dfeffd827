"""What the document promises over the whole program."""

import inspect
import random
import unittest

from tests.bill_oracle import random_book
from tests.samples import LITTLE
from tests.test_bills import random_rule, rich_house
from tests.use_lists import random_use
from whoseuse import amounts, bills, books, desk, doubts, ends, errors, houses, numbers, paying, rules, settling, weighings
from whoseuse.amounts import Amount
from whoseuse.books import Book
from whoseuse.desk import Desk
from whoseuse.errors import Contrary, MeterError
from whoseuse.houses import House
from whoseuse.numbers import Numbers
from whoseuse.rules import Rule
from whoseuse.weighings import Weighing, shown

PLAIN = 'days 4\nflat a 3\nbare stairs 2\nprice 1 2\nlives ann a 0 2\nlives bob a 2 4'
RULE = 'every 2\nbehind before\nlate back\nblock days\nrest heads'
ERRORS = '''BadAmount NoQuotient BadText BadHouse NoFlat BadDay BadWeighing OtherHouse NoCell BadUse NoPerson NoMeter BadMorning
BadNumbers NoNumber BadNumber BadPlaces BadPaper Contrary TooMany Back NotYet Past Expected NothingToUndo NothingToRedo BadJournal
BadRule BadRun BadReadings BadOffers BadLine'''.split()


def worked(lies=False):
    book = Book(House(PLAIN))
    book.go(2)
    book['a', 2] = 7 if lies else 4
    book.go(3)
    book['main', 3] = 9
    book.expect('a', 4)
    return book


def arguments(book):
    """Fit arguments for all functions, by their names."""
    house, kept = book.house, book.numbers
    return {'house': house, 'numbers': kept, 'book': book, 'rule': Rule(RULE), 'one': Rule(RULE), 'other': Rule(LITTLE),
            'weighing': Weighing(house, Amount(1, 2), ((1, 2, 3, 4), (0, -1, Amount(1, 3), 0))), 'person': 'ann', 'payer': 'ann',
            'user': 'bob', 'meter': 'a', 'morning': 2, 'run': 2, 'amount': 6, 'readings': (('a', 1),), 'offers': (('a', 1, 2),),
            'use': ((2, 2, 2, 1), (1, 1, 1, 1)), 'paper': (0, Amount(1, 2)), 'value': ('open', (), ())}


def functions():
    """(name, function) of all functions of the interface."""
    listed = {weighings: 'use_of cost_of shown', doubts: 'doubted needless shows_doubted shows_needless', bills: 'billed account',
              ends: 'floor ceiling fits fitting least greatest shows_fitting shows_least shows_greatest',
              paying: 'off pays fair alike shows_fair shows_alike', settling: 'settled fewest shows_settled shows_fewest'}
    return [(name, vars(module)[name]) for module, names in listed.items() for name in names.split()]


def look(value):
    """All that can be seen of a value."""
    if isinstance(value, (Amount, int, str)) or value is None:
        return repr(value)
    if isinstance(value, tuple):
        return tuple(look(part) for part in value)
    if isinstance(value, House):
        return value.text, value.days, value.flats, value.meters, value.people
    if isinstance(value, Rule):
        return value.text, value.every, value.behind, value.late, value.block, value.rest
    if isinstance(value, Numbers):
        return value.house.text, value.rows, value.stretches
    if isinstance(value, Weighing):
        return value.house.text, look(value.constant), look(value.rows)
    if isinstance(value, Book):
        return value.journal, value.today, value.told, value.expected, look(value.numbers), look(value.stood(value.today))
    raise TypeError(value)


def parts(value):
    """The value and all that stands within it."""
    found = [value]
    if isinstance(value, tuple):
        for part in value:
            found += parts(part)
    return found


class Calls(unittest.TestCase):

    def test_by_position_and_by_name_again_and_again(self):
        for name, function in functions():
            told, names = arguments(worked()), list(inspect.signature(function).parameters)
            by_position = function(*[told[one] for one in names])
            by_name = function(**{one: told[one] for one in names[::-1]})
            others = arguments(worked())
            again = function(*[others[one] for one in names])
            self.assertEqual(look(by_position), look(by_name), name)
            self.assertEqual(look(by_position), look(again), name)

    def test_nothing_that_is_passed_in_changes(self):
        for name, function in functions():
            for lies in (False, True):
                told, names = arguments(worked(lies)), list(inspect.signature(function).parameters)
                ahead = {one: look(told[one]) for one in names}
                try:
                    function(*[told[one] for one in names])
                except Contrary:
                    self.assertTrue(lies, name)
                self.assertEqual({one: look(told[one]) for one in names}, ahead, name)

    def test_returned_sequences_are_tuples_and_amounts_are_amounts(self):
        for name, function in functions():
            told, names = arguments(worked()), list(inspect.signature(function).parameters)
            result = function(*[told[one] for one in names])
            self.assertFalse([part for part in parts(result) if isinstance(part, (list, dict, set))], name)
            if name in ('floor', 'ceiling'):
                self.assertIsInstance(result, Amount)
            if name.startswith('shows_') or name == 'fits':
                self.assertIsInstance(result, bool)

    def test_contrary_wherever_it_is_asked(self):
        for name, function in functions():
            told, names = arguments(worked(True)), list(inspect.signature(function).parameters)
            if name in 'least greatest shows_least shows_greatest needless shows_needless fair alike shows_fair shows_alike'.split() + (
                    'settled fewest shows_settled shows_fewest'.split()):
                with self.assertRaises(Contrary, msg=name) as caught:
                    function(*[told[one] for one in names])
                self.assertEqual(caught.exception.value, (('a', 2),))
            else:
                self.assertIsNotNone(function(*[told[one] for one in names]))

    def test_the_lot_of_contrary(self):
        chance, found = random.Random(800), 0
        for _ in range(40):
            house = rich_house(chance, chance.randint(4, 10), chance.randint(1, 4), 5)
            book = random_book(chance, Book(house), random_use(chance, house), False)
            kept, rule = book.numbers, random_rule(chance)
            told = dict(arguments(worked()), book=book, numbers=kept, rule=rule, weighing=shown(house, 'main', 3), readings=(),
                        person=house.people[0], amount=0)
            if ends.fitting(kept)[0] == 'fits':
                continue
            found += 1
            for function in (ends.least, ends.greatest, paying.fair, paying.alike, settling.settled):
                with self.assertRaises(Contrary) as caught:
                    function(*[told[one] for one in inspect.signature(function).parameters])
                lot = caught.exception.value
                self.assertEqual(ends.fitting(kept.only(lot))[0], 'contrary')
                for at in range(len(lot)):
                    self.assertEqual(ends.fitting(kept.only(lot[:at] + lot[at + 1:]))[0], 'fits')
        self.assertGreater(found, 8)


class Told(unittest.TestCase):

    def test_what_was_told_stays_while_the_book_goes_on(self):
        book = worked()
        told = arguments(book)
        results = [(name, function(*[told[one] for one in inspect.signature(function).parameters])) for name, function in functions()]
        ahead = [look(result) for name, result in results]
        book.go(4)
        book['a', 2] = 1
        book['a', 4] = 9
        book.drop('main', 3)
        book.undo()
        self.assertEqual([look(result) for name, result in results], ahead)

    def test_a_rule_of_a_desk_and_its_book(self):
        one = Desk(PLAIN, RULE)
        for line in ('go 2', 'read a 2 4', 'go 3', 'read main 3 9', 'expect a 4'):
            one.say(line)
        self.assertEqual(one.book, worked())
        self.assertEqual(Book.of(one.book.journal), worked())


class Errors(unittest.TestCase):

    def test_all_are_there(self):
        for name in ERRORS:
            error = vars(errors)[name]
            self.assertEqual(error.__bases__, (MeterError,))
            value = [name]
            self.assertIs(error(value).value, value)
        self.assertEqual(MeterError.__bases__, (ValueError,))

    def test_no_further_ones_are_raised(self):
        for module in (amounts, bills, books, desk, doubts, ends, houses, numbers, paying, rules, settling, weighings):
            for name, value in vars(module).items():
                if isinstance(value, type) and issubclass(value, Exception):
                    self.assertIs(value, vars(errors)[name])


if __name__ == '__main__':
    unittest.main()
