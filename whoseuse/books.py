"""Books: what was told of the meters of a house, and when."""

from whoseuse.errors import Back, BadHouse, BadJournal, BadMorning, Expected, MeterError, NoMeter, NoNumber
from whoseuse.errors import NothingToRedo, NothingToUndo, NotYet, Past
from whoseuse.forms import act_of, do_act
from whoseuse.houses import House
from whoseuse.meters import is_meter, is_morning
from whoseuse.numbers import Numbers, is_row_morning

OPENING = "book"


class Page:
    """How a book stands behind an act; a page never changes.

    line tells the act, now is today, stand has the numbers that stand, awaits those that are
    expected, notes all that was told.
    """

    def __init__(self, line, now, stand, awaits, notes):
        self.line = line
        self.now = now
        self.stand = stand
        self.awaits = awaits
        self.notes = notes


class Mark:
    """What a book was when a trial was entered, and the mark of the entry around it."""

    def __init__(self, book, outer):
        self.pages = book.pages
        self.undone = book.undone
        self.outer = outer


class Trial:
    """What can be entered to try something with a book."""

    def __init__(self, book, keep):
        self.book = book
        # None or True, since what leaves a block may only ask whether something is None.
        self.kept = True if keep is True else None
        self.mark = None

    def __enter__(self):
        self.mark = Mark(self.book, self.mark)
        return self.book

    def __exit__(self, kind, value, trace):
        book = self.book
        mark = self.mark
        if self.kept is None or kind is not None:
            book.pages = mark.pages
            book.undone = mark.undone
        self.mark = mark.outer


class Book:
    """What was told of the meters of a house; its acts can be undone and done again."""

    def __init__(self, house):
        self._house = house
        # Tuples of pages that never change: so a trial need only keep them.
        self.pages = (Page("", 0, Numbers(house), (), ()),)
        self.undone = ()

    @property
    def house(self):
        """The house whose meters are read."""
        return self._house

    @property
    def today(self):
        """The morning that it is."""
        return self.pages[-1].now

    @property
    def numbers(self):
        """The Numbers that stand now."""
        return self.pages[-1].stand

    @property
    def expected(self):
        """The ascending tuple of (meter, morning) that are expected."""
        return self.pages[-1].awaits

    @property
    def told(self):
        """The tuple of (morning on which it was told, meter, morning, number or None)."""
        return self.pages[-1].notes

    @property
    def journal(self):
        """The text of the house and of all acts that stand, from which Book.of makes an equal book."""
        return "\n".join([self._house.text, OPENING] + [page.line for page in self.pages[1:]])

    @staticmethod
    def of(text):
        """The book whose journal this text is."""
        if not isinstance(text, str):
            raise BadJournal(-1)
        lines = text.split("\n")
        ahead = lines.index(OPENING) if OPENING in lines else len(lines)
        try:
            book = Book(House("\n".join(lines[:ahead])))
        except BadHouse as error:
            raise BadJournal(error.value)
        if ahead == len(lines):
            raise BadJournal(ahead + 1)
        for at, line in enumerate(lines[ahead + 1:], start=ahead + 2):
            act = act_of(line)
            if len(act) == 0:
                raise BadJournal(at)
            try:
                do_act(book, act)
            except MeterError:
                raise BadJournal(at)
        return book

    def go(self, morning):
        """Let today be this morning."""
        if not is_morning(self._house, morning):
            raise BadMorning(morning)
        if morning < self.today:
            raise Back(morning)
        awaits = tuple([place for place in self.expected if place[1] >= morning])
        self._turn(Page(f"go {morning}", morning, self.numbers, awaits, self.told))

    def __setitem__(self, at, worth):
        if not isinstance(at, tuple) or len(at) != 2:
            raise NoNumber(at)
        meter, morning = at
        self._check_reading(meter, morning)
        if morning > self.today:
            raise NotYet(morning)
        # BadNumber comes from here.
        stand = self.numbers.put(meter, morning, worth)
        awaits = tuple([place for place in self.expected if not place == at])
        notes = self.told + ((self.today, meter, morning, worth),)
        self._turn(Page(f"read {meter} {morning} {worth}", self.today, stand, awaits, notes))

    def drop(self, meter, morning):
        """Take back the number of this meter and morning."""
        if (meter, morning) not in self.numbers:
            raise NoNumber((meter, morning))
        notes = self.told + ((self.today, meter, morning, None),)
        stand = self.numbers.without(((meter, morning),))
        self._turn(Page(f"drop {meter} {morning}", self.today, stand, self.expected, notes))

    def expect(self, meter, morning):
        """Let it be known that a number will be told on this morning."""
        self._check_reading(meter, morning)
        if morning <= self.today:
            raise Past(morning)
        place = (meter, morning)
        if place in self.expected:
            raise Expected(place)
        ahead = [other for other in self.expected if other < place]
        behind = [other for other in self.expected if other > place]
        awaits = tuple(ahead + [place] + behind)
        self._turn(Page(f"expect {meter} {morning}", self.today, self.numbers, awaits, self.told))

    def undo(self):
        """Take the last act back."""
        if len(self.pages) == 1:
            raise NothingToUndo(None)
        self.undone = self.undone + self.pages[-1:]
        self.pages = self.pages[:-1]

    def redo(self):
        """Do again what was undone last."""
        if len(self.undone) == 0:
            raise NothingToRedo(None)
        self.pages = self.pages + self.undone[-1:]
        self.undone = self.undone[:-1]

    def stood(self, morning):
        """The Numbers that stood behind all that was told on this morning and ahead of it."""
        if not is_morning(self._house, morning):
            raise BadMorning(morning)
        if morning > self.today:
            raise NotYet(morning)
        return [page for page in self.pages if page.now <= morning][-1].stand

    def copy(self):
        """An equal book, which goes on by itself."""
        other = Book(self._house)
        other.pages = self.pages
        other.undone = self.undone
        return other

    def trial(self, *, keep=False):
        """What binds this book in a with: behind the block it is as ahead of it, unless it is kept."""
        return Trial(self, keep)

    def tried(self, look, *, keep=False):
        """What look returns of this book in a trial."""
        with self.trial(keep=keep) as book:
            return look(book)

    def __getitem__(self, at):
        return self.numbers[at]

    def __iter__(self):
        raise TypeError("a book is asked number by number")

    def __contains__(self, x):
        return x in self.numbers

    def __len__(self):
        return len(self.numbers)

    def __eq__(self, other):
        if not isinstance(other, Book) or not self.house == other.house:
            return False
        return self.today == other.today and self.told == other.told and self.expected == other.expected

    def _turn(self, page):
        self.pages = self.pages + (page,)
        self.undone = ()

    def _check_reading(self, meter, morning):
        if not is_meter(self._house, meter):
            raise NoMeter(meter)
        if not is_row_morning(self._house, morning):
            raise BadMorning(morning)
