"""Settling: which further readings tell whether a weighing's worth is at most an amount."""

from whoseuse.amounts import is_amount
from whoseuse.ends import check_weighing
from whoseuse.errors import BadAmount, BadOffers, BadReadings, TooMany
from whoseuse.meters import is_reading
from whoseuse.papers import ceiling_by, floor_by, is_paper, opposite
from whoseuse.plain import choices, climbs, is_whole
from whoseuse.plans import cheapest, check_fits, is_fit
from whoseuse.weighings import shown

MOST_ROWS = 60
MOST_READINGS = 3
MOST_OFFERS = 4
MOST_PRICE = 9


class Question:
    """Whether the worth of a weighing is at most an amount, asked at all places of a tree.

    many is how many rows of numbers were shown so far; parted has two uses of one such row, the one
    with a worth of at most the amount, the other with a greater one (None as long as there are none).
    """

    def __init__(self, weighing, amount):
        self.weighing = weighing
        self.amount = amount
        self.many = 0
        self.parted = None

    def tree(self, numbers, readings):
        """The tree of numbers; TooMany, if there are too many rows."""
        if len(readings) == 0:
            return self.answer(numbers)
        meter, morning = readings[0]
        low, paper, high, other = span(numbers, meter, morning)
        # Each of these numbers is shown by some use.
        if self.many + high - low + 1 > MOST_ROWS:
            raise TooMany(MOST_ROWS)
        trees = [self.tree(numbers.put(meter, morning, number), readings[1:]) for number in range(low, high + 1)]
        return low, paper, other, tuple(trees)

    def answer(self, numbers):
        """What the tree has where all is read; None if nothing is settled any more."""
        self.many = self.many + 1
        if self.parted is not None:
            return None
        weighing = self.weighing
        most, against = cheapest(numbers, -weighing)
        if weighing(most) <= self.amount:
            return "yes", opposite(against)
        use, paper = cheapest(numbers, weighing)
        if weighing(use) > self.amount:
            return "no", paper
        self.parted = (use, most)
        return None


def settled(numbers, weighing, amount, readings):
    """("settled", tree) if the readings settle the question whatever they show, or ("open", use, other)."""
    check_question(numbers, weighing, amount)
    check_readings(numbers, readings)
    check_fits(numbers)
    return settling(numbers, weighing, amount, readings)


def shows_settled(numbers, weighing, amount, readings, value):
    """Whether value is a right result of settled."""
    check_question(numbers, weighing, amount)
    check_readings(numbers, readings)
    check_fits(numbers)
    settling(numbers, weighing, amount, readings)
    if not isinstance(value, tuple):
        return False
    if len(value) == 2 and value[0] == "settled":
        return shows_tree(numbers, weighing, amount, readings, value[1])
    if len(value) == 3 and value[0] == "open":
        return shows_open(numbers, weighing, amount, readings, value[1:])
    return False


def fewest(numbers, weighing, amount, offers):
    """("choice", price, choice, tree, reasons): the cheapest readings that settle it; or ("none", reasons)."""
    check_question(numbers, weighing, amount)
    check_offers(numbers, offers)
    check_fits(numbers)
    reasons = []
    for choice in choices_of(offers):
        told = settling(numbers, weighing, amount, choice)
        if told[0] == "settled":
            return "choice", price_of(offers, choice), choice, told[1], tuple(reasons)
        reasons.append((choice, told[1], told[2]))
    return "none", tuple(reasons)


def shows_fewest(numbers, weighing, amount, offers, value):
    """Whether value is a right result of fewest."""
    right = fewest(numbers, weighing, amount, offers)
    if not isinstance(value, tuple) or len(value) != len(right) or not value[0] == right[0]:
        return False
    some = choices_of(offers)
    if right[0] == "none":
        return are_reasons(numbers, weighing, amount, some, value[1])
    word, price, choice, tree, reasons = value
    # The first choice that settles the question is one alone, so it is known.
    if not is_whole(price) or not price == right[1] or not are_readings(numbers, choice) or not choice == right[2]:
        return False
    if not shows_tree(numbers, weighing, amount, choice, tree):
        return False
    return are_reasons(numbers, weighing, amount, some[:some.index(choice)], reasons)


def settling(numbers, weighing, amount, readings):
    question = Question(weighing, amount)
    tree = question.tree(numbers, readings)
    if question.parted is None:
        return "settled", tree
    use, other = question.parted
    return "open", use, other


def span(numbers, meter, morning):
    """(low, paper, high, other): the least and the greatest that the meter can show, with their papers."""
    weighing = shown(numbers.house, meter, morning)
    use, paper = cheapest(numbers, weighing)
    other, against = cheapest(numbers, -weighing)
    return weighing(use).number, paper, weighing(other).number, opposite(against)


def check_question(numbers, weighing, amount):
    check_weighing(numbers, weighing)
    if not is_amount(amount):
        raise BadAmount(amount)


def check_readings(numbers, value):
    if not are_readings(numbers, value) or len(value) > MOST_READINGS:
        raise BadReadings(value)


def check_offers(numbers, value):
    if not isinstance(value, tuple) or not 1 <= len(value) <= MOST_OFFERS:
        raise BadOffers(value)
    if not all([is_offer(row) for row in value]) or not are_readings(numbers, tuple([row[:2] for row in value])):
        raise BadOffers(value)


def are_readings(numbers, value):
    """Whether value is an ascending tuple of (meter, morning) that are none of the numbers."""
    if not isinstance(value, tuple) or not all([is_new(numbers, place) for place in value]):
        return False
    return climbs(value)


def is_new(numbers, value):
    return is_reading(numbers.house, value) and value[1] > 0 and value not in numbers


def is_offer(row):
    if not isinstance(row, tuple) or len(row) != 3:
        return False
    return is_whole(row[2]) and 1 <= row[2] <= MOST_PRICE


def choices_of(offers):
    """All choices, by price, then by how many, then as tuples."""
    some = choices([row[:2] for row in offers], MOST_READINGS)
    return [choice for price in range(MOST_PRICE * MOST_READINGS + 1) for choice in some
            if price_of(offers, choice) == price]


def price_of(offers, choice):
    return sum([price for meter, morning, price in offers if (meter, morning) in choice])


def shows_tree(numbers, weighing, amount, readings, value):
    """Whether value is a tree of numbers by which the readings settle the question."""
    if not isinstance(value, tuple):
        return False
    if len(readings) == 0:
        return len(value) == 2 and shows_answer(numbers, weighing, amount, value[0], value[1])
    meter, morning = readings[0]
    if len(value) != 4 or not shows_span(numbers, meter, morning, value):
        return False
    low, paper, other, trees = value
    return all([shows_tree(numbers.put(meter, morning, low + at), weighing, amount, readings[1:], tree)
                for at, tree in enumerate(trees)])


def shows_answer(numbers, weighing, amount, word, paper):
    if not is_paper(numbers, paper):
        return False
    if word == "yes":
        return ceiling_by(numbers, weighing, paper) <= amount
    return word == "no" and floor_by(numbers, weighing, paper) > amount


def shows_span(numbers, meter, morning, value):
    """Whether the papers show between which two numbers the meter's number lies, and some use shows both."""
    low, paper, other, trees = value
    if not is_whole(low) or not isinstance(trees, tuple):
        return False
    if not is_paper(numbers, paper) or not is_paper(numbers, other):
        return False
    weighing, high = shown(numbers.house, meter, morning), low + len(trees) - 1
    if not floor_by(numbers, weighing, paper) == low or not ceiling_by(numbers, weighing, other) == high:
        return False
    told = span(numbers, meter, morning)
    return (low, high) == (told[0], told[2])


def shows_open(numbers, weighing, amount, readings, uses):
    """Whether the two uses show the same at all readings, but lie on unlike sides of the amount."""
    use, other = uses
    if not is_fit(numbers, use) or not is_fit(numbers, other):
        return False
    for meter, morning in readings:
        counter = shown(numbers.house, meter, morning)
        if not counter(use) == counter(other):
            return False
    return weighing(use) <= amount and weighing(other) > amount


def are_reasons(numbers, weighing, amount, some, value):
    """Whether value is a tuple with, for each of some choices, what shows that it leaves the question open."""
    if not isinstance(value, tuple) or len(value) != len(some):
        return False
    return all([is_reason(numbers, weighing, amount, choice, row) for choice, row in zip(some, value)])


def is_reason(numbers, weighing, amount, choice, row):
    if not isinstance(row, tuple) or len(row) != 3 or not are_readings(numbers, row[0]) or not row[0] == choice:
        return False
    return shows_open(numbers, weighing, amount, choice, row[1:])
