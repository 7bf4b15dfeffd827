"""Lines that tell something, or ask for it: their first words, and what must follow."""

from whoseuse.meters import MAIN
from whoseuse.houses import NOBODY
from whoseuse.plain import decimal, is_name

ACTS = {"go": ("number",), "read": ("meter", "number", "number"), "drop": ("meter", "number"),
        "expect": ("meter", "number")}


def spoken(line, forms):
    """The words of a line that has one of the forms, numbers as integers; [] if it has none of them.

    forms has the kinds of what must follow, by the first word.
    """
    first, *words = line.split(" ")
    if first not in forms or len(words) != len(forms[first]):
        return []
    if not all([is_kind(word, kind) for word, kind in zip(words, forms[first])]):
        return []
    return [first] + [decimal(word) if kind == "number" else word for word, kind in zip(words, forms[first])]


def is_kind(word, kind):
    if kind == "number":
        return decimal(word) >= 0
    return is_name(word) or word == (MAIN if kind == "meter" else NOBODY)


def act_of(line):
    """The words of a line that tells an act of a book; [] if it tells none."""
    return spoken(line, dict(ACTS))


def do_act(book, act):
    """Let the book do what these words tell."""
    if act[0] == "go":
        book.go(act[1])
    elif act[0] == "read":
        book[act[1], act[2]] = act[3]
    elif act[0] == "drop":
        book.drop(act[1], act[2])
    else:
        book.expect(act[1], act[2])
