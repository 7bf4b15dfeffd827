"""Numbers: what the meters of a house showed, and when."""

from whoseuse.errors import BadMorning, BadNumber, BadNumbers, BadPlaces, NoMeter, NoNumber, OtherHouse
from whoseuse.meters import is_meter, is_morning, is_reading
from whoseuse.plain import climbs, is_whole

GREATEST = 9999


class Numbers:
    """Rows of (meter, morning, number) of a house; they never change."""

    def __init__(self, house, rows=()):
        if not are_rows(house, rows):
            raise BadNumbers(rows)
        self._house = house
        self._rows = rows
        self._table = {(meter, morning): number for meter, morning, number in rows}
        self._stretches = stretches_of(house, rows)

    @property
    def house(self):
        """The house whose meters were read."""
        return self._house

    @property
    def rows(self):
        """The ascending tuple of (meter, morning, number)."""
        return self._rows

    @property
    def stretches(self):
        """The tuple of (meter, first, behind, units), meter by meter in the sequence of the house."""
        return self._stretches

    def put(self, meter, morning, number):
        """The numbers with this one, in the place of an elder one."""
        if not is_meter(self._house, meter):
            raise NoMeter(meter)
        if not is_row_morning(self._house, morning):
            raise BadMorning(morning)
        if not is_number(number):
            raise BadNumber(number)
        place = (meter, morning)
        ahead = [row for row in self._rows if row[:2] < place]
        behind = [row for row in self._rows if row[:2] > place]
        return Numbers(self._house, tuple(ahead + [(meter, morning, number)] + behind))

    def only(self, places):
        """The numbers of these places alone."""
        if not are_places(self, places):
            raise BadPlaces(places)
        return Numbers(self._house, tuple([row for row in self._rows if row[:2] in places]))

    def without(self, places):
        """The numbers of all places but these."""
        if not are_places(self, places):
            raise BadPlaces(places)
        return Numbers(self._house, tuple([row for row in self._rows if row[:2] not in places]))

    def __getitem__(self, at):
        if not is_reading(self._house, at):
            raise NoNumber(at)
        if at[1] == 0:
            return 0
        if at not in self._table:
            raise NoNumber(at)
        return self._table[at]

    def __iter__(self):
        raise TypeError("numbers are asked one by one")

    def __contains__(self, x):
        # What is no reading must not be looked up: True would be found as 1, and a list not at all.
        return is_reading(self._house, x) and x in self._table

    def __len__(self):
        return len(self._rows)

    def __eq__(self, other):
        return isinstance(other, Numbers) and self._house == other._house and self._rows == other._rows

    def __le__(self, other):
        if not isinstance(other, Numbers):
            return NotImplemented
        self._check(other)
        return holds_all(other._rows, self._rows)

    def __lt__(self, other):
        if not isinstance(other, Numbers):
            return NotImplemented
        self._check(other)
        return holds_all(other._rows, self._rows) and not self._rows == other._rows

    def __ge__(self, other):
        if not isinstance(other, Numbers):
            return NotImplemented
        self._check(other)
        return holds_all(self._rows, other._rows)

    def __gt__(self, other):
        if not isinstance(other, Numbers):
            return NotImplemented
        self._check(other)
        return holds_all(self._rows, other._rows) and not self._rows == other._rows

    def _check(self, other):
        if not self._house == other._house:
            raise OtherHouse(other)


def are_rows(house, value):
    """Whether value is an ascending tuple of rows, no meter and morning twice."""
    if not isinstance(value, tuple) or not all([is_row(house, row) for row in value]):
        return False
    return climbs([(meter, morning) for meter, morning, number in value])


def is_row(house, value):
    if not isinstance(value, tuple) or len(value) != 3:
        return False
    return is_meter(house, value[0]) and is_row_morning(house, value[1]) and is_number(value[2])


def is_row_morning(house, value):
    """Whether meters can be read on this morning; on morning 0 it is known what they show."""
    return is_morning(house, value) and value > 0


def is_number(value):
    """Whether a meter can show this."""
    return is_whole(value) and 0 <= value <= GREATEST


def are_places(numbers, value):
    """Whether value is an ascending tuple of (meter, morning) of rows."""
    if not isinstance(value, tuple) or not all([place in numbers for place in value]):
        return False
    return climbs(value)


def holds_all(rows, others):
    """Whether each of the other rows is one of the rows."""
    return all([row in rows for row in others])


def stretches_of(house, rows):
    found = []
    for meter in house.meters:
        first, elder = 0, 0
        for name, morning, number in rows:
            if name == meter:
                found.append((meter, first, morning, number - elder))
                first, elder = morning, number
    return tuple(found)
