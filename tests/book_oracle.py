"""Another way to keep a book: the acts alone, from which all else is told anew each time."""


class Ledger:
    """The acts that stand, and those that were undone, the next one to be done again at the end."""

    def __init__(self, house):
        self.house = house
        self.acts, self.undone = [], []

    def do(self, *act):
        self.acts, self.undone = self.acts + [act], []

    def undo(self):
        self.acts, self.undone = self.acts[:-1], self.undone + self.acts[-1:]

    def redo(self):
        self.acts, self.undone = self.acts + self.undone[-1:], self.undone[:-1]

    def today(self):
        return max([0] + [act[1] for act in self.acts if act[0] == 'go'])

    def told(self):
        rows, today = [], 0
        for act in self.acts:
            if act[0] == 'go':
                today = act[1]
            if act[0] == 'read':
                rows.append((today,) + act[1:])
            if act[0] == 'drop':
                rows.append((today,) + act[1:] + (None,))
        return tuple(rows)

    def stood(self, morning):
        """The rows behind all that was told till this morning."""
        kept = {}
        for today, meter, read, number in self.told():
            if today <= morning:
                kept.pop((meter, read), None)
                if number is not None:
                    kept[meter, read] = number
        return tuple(sorted((meter, read, number) for (meter, read), number in kept.items()))

    def expected(self):
        """What was expected and is still ahead of us, or for today, and was not told since."""
        left = set()
        for at, act in enumerate(self.acts):
            later = [other[1:3] for other in self.acts[at:] if other[0] == 'read']
            if act[0] == 'expect' and act[2] >= self.today() and act[1:] not in later:
                left.add(act[1:])
        return tuple(sorted(left))

    def journal(self):
        return '\n'.join([self.house.text, 'book'] + [' '.join(str(word) for word in act) for act in self.acts])
