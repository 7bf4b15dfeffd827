"""Integers, names, and numbers written in decimal: what all other files ask of plain values."""

LETTERS = "abcdefghijklmnopqrstuvwxyz"
TAKEN = ("main", "house", "rest")


def is_whole(value):
    """Whether value is an integer; True and False are none."""
    return isinstance(value, int) and not isinstance(value, bool)


def is_name(value):
    """Whether value is a name: 1 to 8 letters, and no word that means something else."""
    if not isinstance(value, str) or not 1 <= len(value) <= 8:
        return False
    return value not in TAKEN and all([letter in LETTERS for letter in value])


def decimal(word):
    """The number, not below 0, that the string word writes without leading zeros; -1 if it writes none."""
    if not (word.isascii() and word.isdigit()):
        return -1
    if word.startswith("0") and word != "0":
        return -1
    return int(word)


def ascending(words):
    """The ascending tuple of the strings in words."""
    kept = {word: True for word in words}
    return tuple(sorted([str(word) for word in kept]))


def climbs(rows):
    """Whether each of the rows, which can be compared, is greater than the one ahead of it."""
    return all([one < other for one, other in zip(rows, rows[1:])])


def choices(row, most):
    """All tuples of up to so many of the ascending row, themselves ascending: by how many, then as tuples."""
    found, layer = [()], [((), 0)]
    for _ in range(most):
        layer = [(taken + (row[at],), at + 1) for taken, first in layer for at in range(first, len(row))]
        found = found + [taken for taken, first in layer]
    return found
