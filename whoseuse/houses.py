"""Houses: their days, places, prices, and who lives where."""

from whoseuse.errors import BadDay, BadHouse, NoFlat
from whoseuse.plain import ascending, decimal, is_name, is_whole

NOBODY = "house"
FIRST_PRICE = 1


class House:
    """A house, as its text tells it."""

    def __init__(self, text):
        draft = drafted(text)
        self._text = text
        self.days = draft.days
        self.flats = tuple(draft.places)
        self.meters = tuple(["main"] + [name for name, room, inner in draft.places if inner])
        self.people = ascending([NOBODY] + [person for person, place, first, behind in draft.stays])
        self._rooms = {name: room for name, room, inner in draft.places}
        self._tenants = {name: tenants(name, draft) for name in self._rooms}
        self._prices = prices(draft)

    @property
    def text(self):
        """The text that the house was made of."""
        return self._text

    def lives(self, flat, day):
        """The person who lives in this place on this day."""
        if not self._is_place(flat):
            raise NoFlat(flat)
        if not self._is_day(day):
            raise BadDay(day)
        return self._tenants[flat][day]

    def room(self, flat):
        """The most that is used in this place on a day."""
        if not self._is_place(flat):
            raise NoFlat(flat)
        return self._rooms[flat]

    def price(self, day):
        """What a unit costs on this day."""
        if not self._is_day(day):
            raise BadDay(day)
        return self._prices[day]

    def is_use(self, value):
        """Whether value is a use of this house."""
        if not isinstance(value, tuple) or len(value) != len(self.flats):
            return False
        return all([self._is_place_use(row, room) for row, (name, room, inner) in zip(value, self.flats)])

    def __eq__(self, other):
        return isinstance(other, House) and self._text == other._text

    def _is_place(self, value):
        return isinstance(value, str) and value in self._rooms

    def _is_day(self, value):
        return is_whole(value) and 0 <= value < self.days

    def _is_place_use(self, row, room):
        if not isinstance(row, tuple) or len(row) != self.days:
            return False
        return all([is_whole(units) and 0 <= units <= room for units in row])


class Draft:
    """What the lines of a house told so far.

    days is 0 until its line is there; places are (name, room, whether it has an inner meter),
    tariffs (day, number), and stays (person, place, first, behind).
    """

    def __init__(self):
        self.days = 0
        self.places = []
        self.tariffs = []
        self.stays = []

    def take(self, line):
        """Whether this line can stand behind those taken so far; if so, it is taken."""
        kind, *words = line.split(" ")
        if kind == "days":
            return self.take_days(words)
        if kind == "flat" or kind == "bare":
            return self.take_place(words, kind == "flat")
        if kind == "price":
            return self.take_price(words)
        if kind == "lives":
            return self.take_stay(words)
        return False

    def take_days(self, words):
        if self.days > 0 or len(words) != 1:
            return False
        days = decimal(words[0])
        if not 1 <= days <= 14:
            return False
        self.days = days
        return True

    def take_place(self, words, inner):
        if self.days == 0 or self.tariffs or self.stays or len(words) != 2:
            return False
        name, room = words[0], decimal(words[1])
        if not is_name(name) or self.has_place(name) or not 1 <= room <= 9:
            return False
        many = len(self.places)
        # The last place must be left to a flat, if there is none yet.
        if many == 4 or many == 3 and not inner and not self.has_flat():
            return False
        self.places.append((name, room, inner))
        return True

    def take_price(self, words):
        if not self.has_flat() or self.stays or len(self.tariffs) == 3 or len(words) != 2:
            return False
        day, number = decimal(words[0]), decimal(words[1])
        ahead = self.tariffs[-1][0] if self.tariffs else -1
        if not ahead < day < self.days or not 0 <= number <= 99:
            return False
        self.tariffs.append((day, number))
        return True

    def take_stay(self, words):
        if not self.has_flat() or len(self.stays) == 8 or len(words) != 4:
            return False
        person, place, first, behind = words[0], words[1], decimal(words[2]), decimal(words[3])
        if not is_name(person) or not self.has_place(place):
            return False
        if not 0 <= first < behind <= self.days or self.is_let(place, first, behind):
            return False
        self.stays.append((person, place, first, behind))
        return True

    def has_place(self, name):
        return any([place == name for place, room, inner in self.places])

    def has_flat(self):
        """Whether there is a flat; then no line is missing any more."""
        return any([inner for name, room, inner in self.places])

    def is_let(self, name, first, behind):
        """Whether somebody lives in this place on one of the days first to behind - 1."""
        return any([place == name and start < behind and first < end for person, place, start, end in self.stays])


def drafted(text):
    """The draft of a whole house."""
    if not isinstance(text, str):
        raise BadHouse(-1)
    draft, lines = Draft(), text.split("\n")
    for at, line in enumerate(lines, start=1):
        if not draft.take(line):
            raise BadHouse(at)
    if not draft.has_flat():
        raise BadHouse(len(lines) + 1)
    return draft


def tenants(name, draft):
    """Who lives in this place, day by day."""
    row = [NOBODY] * draft.days
    for person, place, first, behind in draft.stays:
        if place == name:
            for day in range(first, behind):
                row[day] = person
    return tuple(row)


def prices(draft):
    """What a unit costs, day by day."""
    row = [FIRST_PRICE] * draft.days
    for first, number in draft.tariffs:
        for day in range(first, draft.days):
            row[day] = number
    return tuple(row)
