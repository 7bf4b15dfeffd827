"""Amounts: exact fractions."""

from math import gcd

from whoseuse.errors import BadAmount, BadText, NoQuotient
from whoseuse.plain import decimal, is_whole

WIDTH = 60
BLOCK = 10 ** 60


class Amount:
    """A fraction of two integers, in least terms, with a positive under."""

    def __init__(self, number, under=1):
        if not is_whole(number) or not is_whole(under) or under == 0:
            raise BadAmount((number, under))
        shared = gcd(number, under)
        if under < 0:
            shared = -shared
        self.number = number // shared
        self.under = under // shared

    @property
    def text(self):
        """The amount as it is written: "3", "-3/4"."""
        if self.under == 1:
            return figures(self.number)
        return f"{figures(self.number)}/{figures(self.under)}"

    @staticmethod
    def of(text):
        """The amount of which this is just the text."""
        if not isinstance(text, str):
            raise BadText(text)
        top, slash, bottom = text.partition("/")
        number = decimal(top.removeprefix("-"))
        under = decimal(bottom) if slash else 1
        if number < 0 or under < 1:
            raise BadText(text)
        amount = Amount(-number if top.startswith("-") else number, under)
        # "-0", "3/1" and "2/4" can be read, but no amount is written so.
        if amount.text != text:
            raise BadText(text)
        return amount

    def __repr__(self):
        if self.under == 1:
            return f"Amount({figures(self.number)})"
        return f"Amount({figures(self.number)}, {figures(self.under)})"

    def __eq__(self, other):
        if not is_amount(other):
            return False
        return (self.number, self.under) == parts(other)

    def __lt__(self, other):
        if not is_amount(other):
            return NotImplemented
        return (self - other).number < 0

    def __le__(self, other):
        if not is_amount(other):
            return NotImplemented
        return (self - other).number <= 0

    def __gt__(self, other):
        if not is_amount(other):
            return NotImplemented
        return (self - other).number > 0

    def __ge__(self, other):
        if not is_amount(other):
            return NotImplemented
        return (self - other).number >= 0

    def __neg__(self):
        return Amount(-self.number, self.under)

    def __abs__(self):
        return Amount(abs(self.number), self.under)

    def __add__(self, other):
        if not is_amount(other):
            return NotImplemented
        number, under = parts(other)
        return Amount(self.number * under + number * self.under, self.under * under)

    def __radd__(self, other):
        if not is_amount(other):
            return NotImplemented
        return self + other

    def __sub__(self, other):
        if not is_amount(other):
            return NotImplemented
        return self + -other

    def __rsub__(self, other):
        if not is_amount(other):
            return NotImplemented
        return -self + other

    def __mul__(self, other):
        if not is_amount(other):
            return NotImplemented
        number, under = parts(other)
        return Amount(self.number * number, self.under * under)

    def __rmul__(self, other):
        if not is_amount(other):
            return NotImplemented
        return self * other

    def __floordiv__(self, other):
        if not is_amount(other):
            return NotImplemented
        return quotient(self, other)

    def __rfloordiv__(self, other):
        if not is_amount(other):
            return NotImplemented
        return quotient(other, self)


def is_amount(value):
    """Whether value is an Amount or an integer."""
    return isinstance(value, Amount) or is_whole(value)


def as_amount(value):
    """The Amount that is equal to an Amount or an integer."""
    return value if isinstance(value, Amount) else Amount(value)


def parts(amount):
    """(number, under) of an Amount or an integer."""
    if isinstance(amount, Amount):
        return amount.number, amount.under
    return amount, 1


def quotient(one, other):
    """The exact quotient of two amounts."""
    number, under = parts(other)
    if number == 0:
        raise NoQuotient(one)
    top, bottom = parts(one)
    return Amount(top * under, bottom * number)


def figures(number):
    """The integer in decimal, block by block: str refuses integers of some thousand figures."""
    left, tail = abs(number), ""
    while left >= BLOCK:
        left, block = divmod(left, BLOCK)
        tail = f"{str(block).zfill(WIDTH)}{tail}"
    sign = "-" if number < 0 else ""
    return f"{sign}{left}{tail}"
