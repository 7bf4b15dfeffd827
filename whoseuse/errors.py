"""The errors of the program: each keeps the one value that it is created with."""


class MeterError(ValueError):
    """What all errors of this package are."""

    def __init__(self, value):
        self.value = value


class BadAmount(MeterError):
    """(number, under) make no amount."""


class NoQuotient(MeterError):
    """A division by nought, told by its left side."""


class BadText(MeterError):
    """Not just the text of an amount."""


class BadHouse(MeterError):
    """Not the text of a house: -1, or the number of the first wrong or missing line."""


class NoFlat(MeterError):
    """No place of the house."""


class BadDay(MeterError):
    """No day of the house."""


class BadWeighing(MeterError):
    """No weighing, or nothing that makes one."""


class OtherHouse(MeterError):
    """Something of an unequal house."""


class NoCell(MeterError):
    """No cell of the house."""


class BadUse(MeterError):
    """No use of the house."""


class NoPerson(MeterError):
    """No person of the house."""


class NoMeter(MeterError):
    """No meter of the house."""


class BadMorning(MeterError):
    """No morning that can stand here."""


class BadNumbers(MeterError):
    """Not the rows of numbers."""


class NoNumber(MeterError):
    """No number of a meter and a morning."""


class BadNumber(MeterError):
    """No number that a meter can show."""


class BadPlaces(MeterError):
    """Not an ascending tuple of meters and mornings of rows."""


class BadPaper(MeterError):
    """No paper of the numbers."""


class Contrary(MeterError):
    """No use fits: a lot of numbers that cannot all be true."""


class TooMany(MeterError):
    """More than the told many."""


class Back(MeterError):
    """A morning ahead of today."""


class NotYet(MeterError):
    """A morning behind today."""


class Past(MeterError):
    """A morning that is not behind today."""


class Expected(MeterError):
    """A number that is expected already."""


class NothingToUndo(MeterError):
    """No act that can be undone."""


class NothingToRedo(MeterError):
    """No act that can be done again."""


class BadJournal(MeterError):
    """Not the journal of a book: -1, or the number of the first wrong or missing line."""


class BadRule(MeterError):
    """Not the text of a rule: -1, or the number of the first wrong or missing line."""


class BadRun(MeterError):
    """No run of the rule."""


class BadReadings(MeterError):
    """Not readings that can be asked for."""


class BadOffers(MeterError):
    """Not offers of readings."""


class BadLine(MeterError):
    """No line that the desk knows."""
