"""The meters of a house: which there are, when they can be read, and what they count."""

from whoseuse.plain import is_whole

MAIN = "main"


def is_meter(house, value):
    """Whether value is a meter of the house."""
    return value in house.meters


def is_morning(house, value):
    """Whether value is a morning of the house, the first one among them."""
    return is_whole(value) and 0 <= value <= house.days


def is_reading(house, value):
    """Whether value is (meter, morning) of the house."""
    if not isinstance(value, tuple) or len(value) != 2:
        return False
    return is_meter(house, value[0]) and is_morning(house, value[1])


def counted(house, meter):
    """Where among the places of the house those stand whose use the meter counts."""
    return [at for at, (name, room, inner) in enumerate(house.flats) if meter == MAIN or name == meter]
