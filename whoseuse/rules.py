"""Rules: how bills are made."""

from whoseuse.errors import BadRule
from whoseuse.plain import decimal

LINES = ("every", "behind", "late", "block", "rest")
WAYS = {"late": ("now", "back"), "block": ("days", "last"), "rest": ("heads", "places", "house")}
BEHIND = ("before", "nothing")


class Rule:
    """How bills are made, as its text tells it."""

    def __init__(self, text):
        ways = ways_of(text)
        self._text = text
        self.every = ways[0]
        self.behind = ways[1]
        self.late = ways[2]
        self.block = ways[3]
        self.rest = ways[4]

    @property
    def text(self):
        """The text that the rule was made of."""
        return self._text

    def runs(self, house):
        """The mornings on which bills are made."""
        return tuple(list(range(self.every, house.days, self.every)) + [house.days])

    def __eq__(self, other):
        return isinstance(other, Rule) and self._text == other._text


def ways_of(text):
    """What the five lines tell, in their sequence."""
    if not isinstance(text, str):
        raise BadRule(-1)
    lines, ways = text.split("\n"), []
    for at, line in enumerate(lines, start=1):
        way = way_of(line, LINES[at - 1]) if at <= len(LINES) else None
        if way is None:
            raise BadRule(at)
        ways.append(way)
    if len(ways) < len(LINES):
        raise BadRule(len(ways) + 1)
    return ways


def way_of(line, word):
    """What a line that begins with this word tells; None if it is no such line."""
    words = line.split(" ")
    if len(words) != 2 or words[0] != word:
        return None
    way = words[1]
    if word == "every":
        return decimal(way) if 1 <= decimal(way) <= 14 else None
    if word == "behind":
        if way in BEHIND:
            return way
        return decimal(way) if 0 <= decimal(way) <= 9 else None
    return way if way in WAYS[word] else None
