"""A desk: a book and a rule, asked line by line."""

from whoseuse.bills import account
from whoseuse.books import Book
from whoseuse.ends import fitting, greatest, least
from whoseuse.errors import BadLine
from whoseuse.forms import act_of, do_act, spoken
from whoseuse.houses import House
from whoseuse.paying import fair, off, pays
from whoseuse.rules import Rule
from whoseuse.weighings import use_of

ASKED = {"undo": (), "redo": (), "use": ("person",), "bill": ("person",), "off": ("person",),
         "pays": ("person", "person"), "fits": (), "fair": ("number",)}


class Desk:
    """Leads a book, and tells of it by a rule."""

    def __init__(self, text, rule):
        self.book = Book(House(text))
        self.rule = Rule(rule)

    def say(self, line):
        """The answer to the line."""
        if not isinstance(line, str):
            raise BadLine(line)
        act = act_of(line)
        if len(act) > 0:
            do_act(self.book, act)
            return "ok"
        asked = spoken(line, dict(ASKED))
        if len(asked) == 0:
            raise BadLine(line)
        return self._answer(asked[0], asked[1:])

    def _answer(self, word, told):
        if word == "undo":
            self.book.undo()
            return "ok"
        if word == "redo":
            self.book.redo()
            return "ok"
        if word == "fits":
            return self._fits()
        if word == "fair":
            result = fair(self.book, self.rule, told[0])
            return "yes" if result[0] == "fair" else result[1]
        return self._ends(self._weighing(word, told))

    def _weighing(self, word, told):
        if word == "use":
            return use_of(self.book.house, told[0])
        if word == "bill":
            return account(self.book, self.rule, told[0])
        if word == "off":
            return off(self.book, self.rule, told[0])
        return pays(self.book, self.rule, told[0], told[1])

    def _ends(self, weighing):
        low, high = least(self.book.numbers, weighing)[0], greatest(self.book.numbers, weighing)[0]
        return f"{low.text} {high.text}"

    def _fits(self):
        result = fitting(self.book.numbers)
        if result[0] == "fits":
            return "yes"
        return ", ".join([f"{meter} {morning}" for meter, morning in result[1]])
