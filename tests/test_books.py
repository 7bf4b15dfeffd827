import random
import unittest

from tests.book_oracle import Ledger
from tests.house_oracle import wrong_line
from tests.samples import SMALL, odd_values, without
from whoseuse.amounts import Amount
from whoseuse.books import Book
from whoseuse.errors import Back, BadJournal, BadMorning, BadNumber, Expected, MeterError, NoMeter, NoNumber
from whoseuse.errors import NothingToRedo, NothingToUndo, NotYet, Past
from whoseuse.houses import House
from whoseuse.numbers import Numbers

PLAIN = 'days 4\nflat a 3\nbare stairs 2\nlives ann a 0 2\nlives bob a 2 4'
OTHER = PLAIN.replace('\nlives ann', '\nprice 0 1\nlives ann')
WIDE = 'days 9\nflat zz 3\nbare stairs 2\nflat a 9\nlives ann a 0 2'
NO_METERS = ['stairs', 'house', 'rest', 'ann', 'A', 'b', '', ('a',), ['a'], 0, Amount(0)]
NO_MORNINGS = [-1, 5, 14, 10 ** 8, Amount(2), '2', (2,)]


class Stop(BaseException):
    """An error that is no Exception."""


def begun(text=PLAIN, today=0):
    book = Book(House(text))
    if today:
        book.go(today)
    return book


def worked():
    """A book with each kind of act."""
    book = begun()
    book.go(1)
    book['a', 1] = 3
    book.expect('main', 3)
    book.go(2)
    book['a', 1] = 2
    book['main', 2] = 7
    book.drop('a', 1)
    book.expect('a', 4)
    return book


def state(book):
    return (book.house.text, book.today, book.numbers.rows, book.expected, book.told, book.journal,
            [book.stood(morning).rows for morning in range(book.today + 1)])


def undone(book):
    """All states to which a copy of the book comes by undo, and by redo."""
    ways = []
    for back in (True, False):
        other, way = book.copy(), []
        try:
            while True:
                other.undo() if back else other.redo()
                way.append(state(other))
        except (NothingToUndo, NothingToRedo):
            ways.append(way)
    return ways


class Acts(unittest.TestCase):

    def test_a_new_book(self):
        house = House(PLAIN)
        for book in (Book(house), Book(house=house)):
            self.assertIs(book.house, house)
            self.assertEqual((book.today, book.expected, book.told, len(book)), (0, (), (), 0))
            self.assertEqual(book.numbers, Numbers(house))
            self.assertEqual(book.stood(0), Numbers(house))
            self.assertEqual(book.journal, PLAIN + '\nbook')

    def test_by_hand(self):
        book = worked()
        self.assertEqual(book.today, 2)
        self.assertEqual(book.numbers.rows, (('main', 2, 7),))
        self.assertEqual(book.expected, (('a', 4), ('main', 3)))
        self.assertEqual(book.told, ((1, 'a', 1, 3), (2, 'a', 1, 2), (2, 'main', 2, 7), (2, 'a', 1, None)))
        self.assertEqual([book.stood(morning).rows for morning in range(3)], [(), (('a', 1, 3),), (('main', 2, 7),)])
        self.assertEqual(book.journal, PLAIN + '\nbook\ngo 1\nread a 1 3\nexpect main 3\ngo 2\nread a 1 2\n'
                                               'read main 2 7\ndrop a 1\nexpect a 4')

    def test_kinds(self):
        book = worked()
        self.assertIsInstance(book.numbers, Numbers)
        self.assertIsInstance(book.stood(1), Numbers)
        for rows in (book.expected, book.told):
            self.assertIs(rows.__class__, tuple)
            self.assertEqual({row.__class__ for row in rows}, {tuple})
        self.assertIs(book.today.__class__, int)

    def test_acts_return_nothing(self):
        book = begun()
        self.assertIsNone(book.go(1))
        self.assertIsNone(book.__setitem__(('a', 1), 1))
        self.assertIsNone(book.drop('a', 1))
        self.assertIsNone(book.expect('a', 2))
        self.assertIsNone(book.undo())
        self.assertIsNone(book.redo())

    def test_by_name(self):
        book = begun()
        book.go(morning=1)
        book.expect(morning=2, meter='a')
        book['a', 1] = 1
        book.drop(morning=1, meter='a')
        self.assertEqual(book.stood(morning=1).rows, ())
        self.assertEqual(book.expected, (('a', 2),))

    def test_properties_cannot_be_assigned(self):
        for name in ('house', 'today', 'numbers', 'expected', 'told', 'journal'):
            with self.assertRaises(AttributeError):
                setattr(begun(), name, ())

    def test_the_same_number_told_again(self):
        book = begun(today=1)
        book['a', 1] = 3
        book['a', 1] = 3
        self.assertEqual(book.told, ((1, 'a', 1, 3), (1, 'a', 1, 3)))
        self.assertEqual(book.numbers.rows, (('a', 1, 3),))
        book.undo()
        self.assertEqual(book.told, ((1, 'a', 1, 3),))

    def test_today_itself_is_let(self):
        book = begun(today=4)
        book.go(4)
        self.assertEqual((book.today, book.journal), (4, PLAIN + '\nbook\ngo 4\ngo 4'))
        other = begun()
        other.go(0)
        self.assertEqual(other.journal, PLAIN + '\nbook\ngo 0')
        other.undo()
        with self.assertRaises(NothingToUndo):
            other.undo()

    def test_numbers_told_late(self):
        book = begun(today=3)
        book['main', 1] = 4
        book['main', 3] = 9
        book.go(4)
        book['main', 2] = 5
        self.assertEqual(book.told, ((3, 'main', 1, 4), (3, 'main', 3, 9), (4, 'main', 2, 5)))
        self.assertEqual([book.stood(morning).rows for morning in range(5)],
                         [(), (), (), (('main', 1, 4), ('main', 3, 9)), (('main', 1, 4), ('main', 2, 5), ('main', 3, 9))])

    def test_the_last_morning(self):
        book = begun(today=4)
        book['main', 4] = 9999
        book['a', 4] = 0
        self.assertEqual(book.numbers.rows, (('a', 4, 0), ('main', 4, 9999)))
        self.assertEqual(book.stood(4), book.numbers)

    def test_numbers_that_cannot_be_are_told_all_the_same(self):
        book = begun(today=2)
        book['a', 1] = 9
        book['a', 2] = 1
        self.assertEqual(book.numbers.stretches, (('a', 0, 1, 9), ('a', 1, 2, -8)))


class Waiting(unittest.TestCase):

    def test_expected_till_told(self):
        book = begun()
        book.expect('a', 2)
        book.go(1)
        book['a', 1] = 1
        self.assertEqual(book.expected, (('a', 2),))
        book.go(2)
        self.assertEqual(book.expected, (('a', 2),))
        book['main', 2] = 1
        self.assertEqual(book.expected, (('a', 2),))
        book['a', 2] = 1
        self.assertEqual(book.expected, ())
        book.drop('a', 2)
        self.assertEqual(book.expected, ())

    def test_expected_till_today_goes_beyond(self):
        book = begun()
        for meter, morning in (('main', 3), ('a', 2), ('a', 4), ('a', 3)):
            book.expect(meter, morning)
        self.assertEqual(book.expected, (('a', 2), ('a', 3), ('a', 4), ('main', 3)))
        for today, left in ((2, (('a', 2), ('a', 3), ('a', 4), ('main', 3))), (3, (('a', 3), ('a', 4), ('main', 3))),
                            (4, (('a', 4),)), (4, (('a', 4),))):
            book.go(today)
            self.assertEqual(book.expected, left)

    def test_undone(self):
        book = begun()
        book.expect('a', 1)
        book.go(1)
        book['a', 1] = 2
        book.undo()
        self.assertEqual(book.expected, (('a', 1),))
        book.go(3)
        self.assertEqual(book.expected, ())
        book.undo()
        self.assertEqual(book.expected, (('a', 1),))
        book.redo()
        self.assertEqual(book.expected, ())

    def test_expected_is_not_told(self):
        book = begun()
        book.expect('a', 1)
        self.assertEqual((book.told, len(book), ('a', 1) in book), ((), 0, False))


class Refused(unittest.TestCase):

    def check(self, book, error, value, act):
        """Whether the act raises this error with this very value, and changes nothing."""
        ahead = state(book), undone(book)
        with self.assertRaises(error) as caught:
            act()
        self.assertIs(caught.exception.__class__, error)
        told = caught.exception.value
        if told is not value:
            self.assertIs(told.__class__, tuple)
            self.assertEqual(len(told), 2)
            self.assertTrue(told[0] is value[0] and told[1] is value[1])
        self.assertEqual((state(book), undone(book)), ahead)

    def books(self):
        book = worked()
        other = worked()
        other.undo()
        return book, other

    def test_go(self):
        for book in self.books():
            for value in without(odd_values(), int) + NO_MORNINGS:
                self.check(book, BadMorning, value, lambda: book.go(value))
            for value in (0, 1):
                self.check(book, Back, value, lambda: book.go(value))

    def test_read(self):
        for book in self.books():
            for meter in without(odd_values(), str) + NO_METERS:
                for morning, number in ((1, 1), (0, -1), (4, None), ('x', 10000)):
                    self.check(book, NoMeter, meter, lambda: book.__setitem__((meter, morning), number))
            for morning in without(odd_values(), int) + [0] + NO_MORNINGS:
                for number in (1, -1, None):
                    self.check(book, BadMorning, morning, lambda: book.__setitem__(('a', morning), number))
            for morning in (3, 4):
                for number in (1, -1, True):
                    self.check(book, NotYet, morning, lambda: book.__setitem__(('main', morning), number))
            for number in without(odd_values(), int) + [-1, 10000, 10 ** 8, Amount(2), '2', (2,)]:
                for morning in (1, 2):
                    self.check(book, BadNumber, number, lambda: book.__setitem__(('a', morning), number))

    def test_an_index_that_is_no_tuple_of_two(self):
        book = worked()
        for at in odd_values() + [0, 'ab', ('a', 1, 1), ['a', 1], {'a': 1, 'main': 2}]:
            if not (isinstance(at, tuple) and len(at) == 2):
                for number in (1, -1, None):
                    self.check(book, NoNumber, at, lambda: book.__setitem__(at, number))

    def test_drop(self):
        for book in self.books():
            for meter in odd_values() + ['a', 'main', 'stairs', 'zz']:
                for morning in odd_values() + [0, 1, 3, 5, Amount(1)]:
                    if (meter, morning) not in (('main', 2), ('a', 1)) or (meter, morning) not in book.numbers:
                        self.check(book, NoNumber, (meter, morning), lambda: book.drop(meter, morning))

    def test_expect(self):
        for book in self.books():
            for meter in without(odd_values(), str) + NO_METERS:
                for morning in (3, 0, 1, 'x'):
                    self.check(book, NoMeter, meter, lambda: book.expect(meter, morning))
            for morning in without(odd_values(), int) + [0] + NO_MORNINGS:
                self.check(book, BadMorning, morning, lambda: book.expect('a', morning))
            for morning in (1, 2):
                for meter in ('a', 'main'):
                    self.check(book, Past, morning, lambda: book.expect(meter, morning))
            self.check(book, Expected, ('main', 3), lambda: book.expect('main', 3))
        book = self.books()[0]
        self.check(book, Expected, ('a', 4), lambda: book.expect('a', 4))

    def test_nothing_to_undo_and_to_redo(self):
        book = begun()
        self.check(book, NothingToUndo, None, book.undo)
        self.check(book, NothingToRedo, None, book.redo)
        self.check(worked(), NothingToRedo, None, worked().redo)

    def test_stood(self):
        for book in self.books():
            for value in without(odd_values(), int) + NO_MORNINGS:
                self.check(book, BadMorning, value, lambda: book.stood(value))
            for value in (3, 4):
                self.check(book, NotYet, value, lambda: book.stood(value))


class Asked(unittest.TestCase):

    def test_as_those_of_its_numbers(self):
        for book in (begun(), worked(), begun(WIDE, 5)):
            values = odd_values() + [('a', 1), ('a', 0), ('main', 0), ('main', 2), ('zz', 0), ('stairs', 0), ('a', True), ('a', 2.5),
                                     ('main', Amount(2)), ['main', 2], 'main', ('main', False), 0]
            for value in values:
                self.assertIs(value in book, value in book.numbers)
                try:
                    told = book.numbers[value]
                except NoNumber:
                    with self.assertRaises(NoNumber) as caught:
                        book[value]
                    self.assertIs(caught.exception.value, value)
                else:
                    self.assertEqual(book[value], told)
            self.assertEqual(len(book), len(book.numbers))

    def test_by_hand(self):
        book = worked()
        self.assertEqual((book['main', 2], book['a', 0], len(book)), (7, 0, 1))
        self.assertIs(('main', 2) in book, True)
        self.assertIs(('a', 1) in book, False)

    def test_what_was_told_is_told_alike_while_the_book_goes_on(self):
        book = worked()
        told = book.numbers, book.expected, book.told, book.stood(1)
        shown = [told[0].rows, told[1], told[2], told[3].rows]
        book.go(4)
        book['a', 4] = 9
        book.drop('main', 2)
        book.undo()
        self.assertEqual([told[0].rows, told[1], told[2], told[3].rows], shown)


class Undoing(unittest.TestCase):

    def test_each_kind_of_act(self):
        book, states = begun(), []
        for act in (lambda: book.go(1), lambda: book.__setitem__(('a', 1), 3), lambda: book.expect('main', 3),
                    lambda: book.go(2), lambda: book.__setitem__(('a', 1), 2), lambda: book.drop('a', 1)):
            states.append(state(book))
            act()
        last = state(book)
        for told in states[::-1]:
            book.undo()
            self.assertEqual(state(book), told)
        with self.assertRaises(NothingToUndo) as caught:
            book.undo()
        self.assertIsNone(caught.exception.value)
        for told in states[1:] + [last]:
            book.redo()
            self.assertEqual(state(book), told)
        with self.assertRaises(NothingToRedo) as caught:
            book.redo()
        self.assertIsNone(caught.exception.value)

    def test_an_act_in_between(self):
        for act in (lambda book: book.go(1), lambda book: book.__setitem__(('a', 1), 1), lambda book: book.drop('a', 1),
                    lambda book: book.expect('a', 4)):
            book = begun(today=1)
            book['a', 1] = 3
            book['main', 1] = 4
            book.undo()
            act(book)
            with self.assertRaises(NothingToRedo):
                book.redo()
            book.undo()
            book.redo()
            book.undo()
            self.assertEqual(book.numbers.rows, (('a', 1, 3),))

    def test_an_act_that_raises_is_none(self):
        book = begun(today=1)
        book['a', 1] = 3
        book.undo()
        for act in (lambda: book.go(0), lambda: book.__setitem__(('a', 2), 1), lambda: book.drop('a', 1),
                    lambda: book.expect('a', 1)):
            with self.assertRaises(MeterError):
                act()
        book.redo()
        self.assertEqual(book.numbers.rows, (('a', 1, 3),))

    def test_what_is_looked_at_is_no_act(self):
        book = worked()
        book.undo()
        told = book.numbers, book.journal, book.copy(), book.stood(1), len(book), ('a', 1) in book, book['a', 0], book == book
        book.redo()
        self.assertEqual(state(book), state(worked()))
        self.assertEqual(len(told), 8)


class Against(unittest.TestCase):
    """Books against another way to keep them, over acts by chance."""

    def check(self, book, ledger):
        self.assertEqual(book.today, ledger.today())
        self.assertEqual(book.told, ledger.told())
        self.assertEqual(book.expected, ledger.expected())
        self.assertEqual(book.journal, ledger.journal())
        self.assertEqual(book.numbers.rows, ledger.stood(book.house.days))
        for morning in range(book.today + 1):
            self.assertEqual(book.stood(morning).rows, ledger.stood(morning))

    def act(self, chance, book, ledger):
        house = book.house
        kind = chance.choice(('go', 'read', 'read', 'read', 'drop', 'expect', 'expect', 'undo', 'redo', 'undo'))
        meter, morning, number = chance.choice(house.meters), chance.randint(1, house.days), chance.choice((0, 1, 5, 9999))
        if kind == 'go':
            morning = min(house.days, book.today + chance.choice((0, 1, 1, 2)))
            book.go(morning)
            ledger.do('go', morning)
        if kind == 'read' and morning <= book.today:
            book[meter, morning] = number
            ledger.do('read', meter, morning, number)
        if kind == 'drop' and (meter, morning) in book:
            book.drop(meter, morning)
            ledger.do('drop', meter, morning)
        if kind == 'expect' and morning > book.today and (meter, morning) not in book.expected:
            book.expect(meter, morning)
            ledger.do('expect', meter, morning)
        if kind == 'undo' and ledger.acts:
            book.undo()
            ledger.undo()
        if kind == 'redo' and ledger.undone:
            book.redo()
            ledger.redo()

    def test_by_chance(self):
        chance = random.Random(300)
        for _ in range(60):
            house = House(chance.choice((PLAIN, WIDE, 'days 3\nflat a 1\nflat b 1')))
            book, ledger = Book(house), Ledger(house)
            for _ in range(40):
                self.act(chance, book, ledger)
                self.check(book, ledger)
            other = Book.of(book.journal)
            self.assertEqual(other, book)
            self.assertEqual(state(other), state(book))
            self.assertEqual(undone(other)[0], undone(book)[0])

    def test_trials_by_chance(self):
        chance = random.Random(301)
        for _ in range(60):
            house = House(chance.choice((PLAIN, WIDE)))
            book, ledger = Book(house), Ledger(house)
            self.nested(chance, book, ledger, 3, [book.trial(), book.trial(keep=True)])

    def nested(self, chance, book, ledger, deep, trials):
        for _ in range(chance.randint(0, 6)):
            self.act(chance, book, ledger)
        self.check(book, ledger)
        if deep:
            for _ in range(2):
                keep, fail = chance.random() < 0.5, chance.random() < 0.3
                trial = trials[keep] if chance.random() < 0.5 else book.trial(keep=keep)
                acts, left = ledger.acts, ledger.undone
                try:
                    with trial as held:
                        self.assertIs(held, book)
                        self.nested(chance, book, ledger, deep - 1, trials)
                        if fail:
                            raise Stop
                except Stop:
                    self.assertTrue(fail)
                if fail or not keep:
                    ledger.acts, ledger.undone = acts, left
                self.check(book, ledger)
                self.assertEqual(len(undone(book)[1]), len(ledger.undone))
                for _ in range(chance.randint(0, 3)):
                    self.act(chance, book, ledger)


class Copies(unittest.TestCase):

    def test_independent_and_equal(self):
        book = worked()
        book.undo()
        book.undo()
        other = book.copy()
        self.assertIsInstance(other, Book)
        self.assertIsNot(other, book)
        self.assertEqual(other, book)
        self.assertEqual((state(other), undone(other)), (state(book), undone(book)))
        told = state(book), undone(book)
        other.redo()
        other.go(4)
        other['a', 4] = 1
        self.assertEqual((state(book), undone(book)), told)
        told = state(other), undone(other)
        book.redo()
        book.redo()
        book.drop('main', 2)
        self.assertEqual((state(other), undone(other)), told)

    def test_outside_of_all_trials(self):
        book = worked()
        with book.trial():
            book.go(3)
            other = book.copy()
            other.go(4)
        self.assertEqual((book.today, other.today), (2, 4))
        other.undo()
        self.assertEqual(other.today, 3)

    def test_a_copy_in_its_trial_does_not_change_the_book(self):
        book = worked()
        other = book.copy()
        with other.trial(keep=True):
            book.go(4)
            other.go(3)
        self.assertEqual((book.today, other.today), (4, 3))


class Equal(unittest.TestCase):

    def check(self, one, other, told):
        self.assertIs(one == other, told)
        self.assertIs(other == one, told)
        self.assertIs(one != other, not told)

    def test_unlike_journals(self):
        one, other = begun(today=2), begun(today=1)
        other.go(1)
        other.go(2)
        self.check(one, other, True)
        one.expect('a', 3)
        one.expect('a', 4)
        other.expect('a', 4)
        other.expect('a', 3)
        self.check(one, other, True)
        self.assertNotEqual(one.journal, other.journal)

    def test_expected_and_gone_by(self):
        one, other = begun(), begun()
        one.expect('a', 1)
        self.check(one, other, False)
        one.go(2)
        other.go(2)
        self.check(one, other, True)

    def test_houses(self):
        self.check(begun(), begun(OTHER), False)
        self.check(begun(), Book(House(PLAIN)), True)

    def test_today(self):
        self.check(begun(), begun(today=1), False)

    def test_told(self):
        one, other = begun(today=2), begun(today=1)
        one['a', 1] = 3
        other['a', 1] = 3
        other.go(2)
        # The same numbers, told on unlike mornings.
        self.check(one, other, False)
        one, other = begun(today=2), begun(today=2)
        one['a', 1] = 3
        one['a', 1] = 3
        other['a', 1] = 3
        self.check(one, other, False)
        one.undo()
        self.check(one, other, True)

    def test_what_can_be_undone_does_not_matter(self):
        one, other = worked(), worked()
        one.go(3)
        one.undo()
        self.check(one, other, True)
        self.check(Book.of(one.journal), one, True)

    def test_nothing_else(self):
        for book in (begun(), worked(), begun(SMALL)):
            for value in odd_values() + [book.numbers, book.house, (book,), [book], book.journal]:
                if not (isinstance(value, Book) and value.house == book.house):
                    self.check(book, value, False)

    def test_no_operands(self):
        for value in odd_values() + [0, 1, worked()]:
            for act in (lambda: worked() < value, lambda: worked() >= value, lambda: worked() + value, lambda: value - worked(),
                        lambda: worked() * value, lambda: -worked()):
                with self.assertRaises(TypeError):
                    act()


class Trials(unittest.TestCase):

    def test_not_kept(self):
        for keep in odd_values() + [0, 1, Amount(1), False, 'True', (True,)]:
            if keep is not True:
                book = worked()
                book.undo()
                told = state(book), undone(book)
                with book.trial(keep=keep) as trial:
                    self.assertIs(trial, book)
                    book.redo()
                    book.undo()
                    book.undo()
                    book.go(4)
                    self.assertEqual(trial.today, 4)
                self.assertEqual((state(book), undone(book)), told)

    def test_kept(self):
        book, other = worked(), worked()
        with book.trial(keep=True) as trial:
            self.assertIs(trial, book)
            for one in (book, other):
                one.undo()
                one.go(3)
                one['a', 3] = 1
                one.undo()
        self.assertEqual((state(book), undone(book)), (state(other), undone(other)))
        book.redo()
        self.assertEqual(book['a', 3], 1)

    def test_by_default_not_kept(self):
        book = begun()
        with book.trial():
            book.go(4)
        self.assertEqual(state(book), state(begun()))
        self.assertEqual(undone(book), [[], []])

    def test_errors_of_whatever_class(self):
        for error in (Stop, ValueError, KeyboardInterrupt, GeneratorExit, SystemExit, MeterError, StopIteration):
            for keep in (True, False):
                book = worked()
                told = state(book), undone(book)
                made = error(1)
                with self.assertRaises(error) as caught:
                    with book.trial(keep=keep):
                        book.go(4)
                        raise made
                self.assertIs(caught.exception, made)
                self.assertEqual((state(book), undone(book)), told)

    def test_an_act_that_raises_goes_on(self):
        book = begun()
        with self.assertRaises(Back):
            with book.trial(keep=True):
                book.go(3)
                book.go(2)
        self.assertEqual(book.today, 0)

    def test_an_error_that_was_caught_within(self):
        book = begun()
        with book.trial(keep=True):
            book.go(3)
            try:
                book.go(2)
            except Back:
                pass
        self.assertEqual(book.today, 3)

    def test_within_each_other(self):
        for outer in (True, False):
            for inner in (True, False):
                book = begun()
                with book.trial(keep=outer):
                    book.go(1)
                    with book.trial(keep=inner):
                        book.go(2)
                    self.assertEqual(book.today, 2 if inner else 1)
                self.assertEqual(book.today, (2 if inner else 1) if outer else 0)

    def test_an_inner_error_that_is_caught_without(self):
        book = begun()
        with book.trial(keep=True):
            book.go(1)
            try:
                with book.trial(keep=True):
                    book.go(2)
                    raise Stop
            except Stop:
                pass
            self.assertEqual(book.today, 1)
        self.assertEqual(book.today, 1)

    def test_entered_again(self):
        book = begun()
        trial = book.trial()
        for morning in (2, 1, 3):
            with trial as held:
                self.assertIs(held, book)
                book.go(morning)
            self.assertEqual(book.today, 0)
        book.go(1)
        with trial:
            book.go(4)
        self.assertEqual(book.today, 1)

    def test_entered_again_within_its_own_block(self):
        book = begun()
        trial = book.trial()
        with trial:
            book.go(1)
            with trial:
                book.go(2)
                with trial:
                    book.go(3)
                self.assertEqual(book.today, 2)
                book.go(4)
            self.assertEqual(book.today, 1)
            with trial:
                book.go(2)
            self.assertEqual(book.today, 1)
        self.assertEqual(book.today, 0)

    def test_kept_and_entered_again_within_its_own_block(self):
        book = begun()
        trial = book.trial(keep=True)
        with trial:
            book.go(1)
            try:
                with trial:
                    book.go(2)
                    raise Stop
            except Stop:
                self.assertEqual(book.today, 1)
            with trial:
                book.go(3)
        self.assertEqual(book.today, 3)

    def test_made_ahead_of_acts(self):
        book = begun()
        trial = book.trial()
        book.go(2)
        with trial:
            book.go(4)
        self.assertEqual(book.today, 2)

    def test_keep_is_passed_by_name(self):
        with self.assertRaises(TypeError):
            begun().trial(True)
        with self.assertRaises(TypeError):
            begun().tried(lambda book: None, True)


class Tried(unittest.TestCase):

    def test_not_kept(self):
        for keep in odd_values() + [0, 1]:
            if keep is not True:
                book = worked()
                told = state(book), undone(book)
                self.assertEqual(book.tried(lambda one: (one is book, one.go(4), one.today), keep=keep), (True, None, 4))
                self.assertEqual((state(book), undone(book)), told)
        book = worked()
        self.assertEqual(book.tried(look=lambda one: (one.undo(), one.today)), (None, 2))
        self.assertEqual(state(book), state(worked()))

    def test_kept(self):
        book = worked()
        self.assertIsNone(book.tried(lambda one: one.go(4), keep=True))
        self.assertEqual(book.today, 4)

    def test_errors(self):
        for keep in (True, False):
            book, error = worked(), Stop(1)

            def look(one):
                one.go(4)
                raise error

            with self.assertRaises(Stop) as caught:
                book.tried(look, keep=keep)
            self.assertIs(caught.exception, error)
            self.assertEqual(state(book), state(worked()))

    def test_what_look_returns(self):
        for value in odd_values():
            self.assertIs(begun().tried(lambda one: value), value)

    def test_within_each_other(self):
        book = begun()

        def look(one):
            one.go(1)
            return one.tried(lambda other: (other.go(3), other.today), keep=True) + (one.today,)

        self.assertEqual(book.tried(look), (None, 3, 3))
        self.assertEqual(book.today, 0)


class Journals(unittest.TestCase):

    def test_read_back(self):
        for book in (begun(), worked(), begun(OTHER, 4), begun(SMALL, 1)):
            for _ in range(3):
                other = Book.of(text=book.journal)
                self.assertIsInstance(other, Book)
                self.assertEqual(other, book)
                self.assertEqual(other.journal, book.journal)
                self.assertEqual(undone(other)[0], undone(book)[0])
                self.assertEqual(undone(other)[1], [])
                if len(undone(book)[0]):
                    book.undo()

    def test_what_was_undone_is_not_written(self):
        book = worked()
        for _ in range(8):
            book.undo()
        self.assertEqual(book.journal, PLAIN + '\nbook')

    def bad(self, text, told):
        with self.assertRaises(BadJournal, msg=text) as caught:
            Book.of(text)
        self.assertEqual(caught.exception.value, told, text)
        self.assertIs(caught.exception.value.__class__, int)

    def test_no_strings(self):
        for value in without(odd_values(), str) + [0, PLAIN.split('\n'), (PLAIN + '\nbook',)]:
            self.bad(value, -1)

    def test_no_line_book(self):
        for text, told in [(PLAIN, 6), ('', 1), ('days 4', 2), ('days 4\nbare b 1', 3), ('days 15', 1), (SMALL, 3),
                           (PLAIN + '\n', 6), (PLAIN + '\ngo 1', 6), (PLAIN + '\nBook', 6), (PLAIN + '\nbook ', 6),
                           (PLAIN + '\n book', 6), ('x\ny', 1), (PLAIN + ' book', 5), ('days 4\nflat a 3\nflat a 3', 3),
                           ('days 4\nflat book 3', 3), ('books', 1), (PLAIN + '\nbook 1', 6)]:
            self.bad(text, told)

    def test_lines_ahead_of_the_line_book(self):
        for text, told in [('book', 1), ('book\nbook', 1), ('days 4\nbook', 2), ('days 4\nbare b 1\nbook\ngo 9', 3),
                           ('days 15\nbook', 1), ('\nbook', 1), ('days 4\n\nbook', 2), (PLAIN + '\n\nbook', 6),
                           (PLAIN + '\ngo 1\nbook\ngo 2', 6), ('days 4\nflat a 10\nflat b 10\nbook\nx', 2),
                           ('days 4\nbook\nflat a 3', 2), (PLAIN.replace('bob a 2', 'bob a 1') + '\nbook', 5)]:
            self.bad(text, told)

    def test_lines_ahead_by_another_reader(self):
        lines = PLAIN.split('\n')
        for at in range(len(lines)):
            for line in ['', 'x', 'flat a 3', 'lives ann a 0 9', 'days 4', lines[at] + ' ']:
                some = lines[:at] + [line] + lines[at + 1:]
                told = wrong_line('\n'.join(some))
                if told is not None:
                    self.bad('\n'.join(some + ['book', 'x']), told)
                    self.bad('\n'.join(some + ['x']), told)
            text = '\n'.join(lines[:at] + ['book'])
            if at < 2:
                self.bad(text, wrong_line('\n'.join(lines[:at])))
            else:
                self.assertEqual(Book.of(text).journal, text)

    def test_a_wrong_line_at_each_place(self):
        lines = worked().journal.split('\n')
        first = lines.index('book') + 1
        wrong = ['', ' ', 'x', 'book', 'undo', 'redo', 'go', 'go ', 'go 1 ', ' go 1', 'go  1', 'go 01', 'go -1', 'go +1', 'go x',
                 'go 5', 'go 9999999999', 'go 1 1', 'Go 1', 'read a 1', 'read a 1 1 1', 'read 1 a 1', 'read a 01 1', 'read a 1 01',
                 'read a 0 0', 'read a 1 -1', 'read a 1 10000', 'read stairs 1 1', 'read house 1 1', 'read rest 1 1',
                 'read A 1 1', 'read abcdefghi 1 1', 'read b 1 1', 'read  1 1', 'read main 4 1', 'read a 1 x', 'drop a', 'drop a 3',
                 'drop a 1 1', 'drop a 01', 'drop a 0', 'drop b 1', 'drop main x', 'expect a', 'expect a 0', 'expect a 5',
                 'expect b 3', 'expect a 3 3', 'expect a 03', 'expect stairs 3', 'fits', 'use ann', 'bill ann', 'days 4',
                 'flat b 1', 'lives ann a 0 1', 'read', 'drop', 'expect', 'drop  1', 'read a 1 1 ', 'read 1 1', 'expect  3']
        for at in range(first, len(lines) + 1):
            for line in wrong:
                self.bad('\n'.join(lines[:at] + [line] + lines[at:]), at + 1)
                self.bad('\n'.join(lines[:at] + [line, 'x']), at + 1)

    def test_acts_that_raise_at_their_place(self):
        head, at = PLAIN + '\nbook\ngo 2\n', 8
        for line in ('go 1', 'go 0', 'read a 3 1', 'drop a 1', 'drop a 2', 'expect a 2', 'expect a 1'):
            self.bad(head + line, at)
        for line in ('read a 2 1', 'read main 1 9999', 'read a 1 0', 'go 2', 'go 4', 'expect main 3', 'expect a 4'):
            self.assertEqual(Book.of(head + line).journal, head + line)
        self.bad(head + 'expect a 3\nexpect a 3', at + 1)
        self.bad(head + 'expect a 3\ngo 3\nexpect a 3', at + 2)
        self.bad(head + 'read a 1 1\ndrop a 1\ndrop a 1', at + 2)

    def test_a_journal_can_be_taken_back(self):
        book = Book.of(worked().journal)
        for _ in range(8):
            book.undo()
        self.assertEqual(book.journal, PLAIN + '\nbook')
        with self.assertRaises(NothingToUndo):
            book.undo()
        for _ in range(8):
            book.redo()
        self.assertEqual(state(book), state(worked()))


if __name__ == '__main__':
    unittest.main()
