"""Many lines of calls on small rooms, the same ones every time."""

import random


def room(chance, most_tables):
    """Three rows, the first not empty."""
    rows = [[], [], []]
    greatest = chance.choice([2, 4, 10])
    for number in range(chance.randint(1, most_tables)):
        row = 0 if number == 0 else chance.choice([0, 0, 0, 1, 2])
        rows[row].append(chance.randint(1, greatest))
    return rows


class LineWriter:
    """Writes a line call by call; it is told the answers, so that it can ask what matters."""

    def __init__(self, seed, with_stays, most_tables=5):
        self.chance = random.Random(seed)
        self.loss = self.chance.randint(0, 3)
        self.clearing = self.chance.choice([0, 1, 3])
        self.rows = room(self.chance, most_tables)
        self.seats = max(1, sum(sum(row) for row in self.rows))
        self.stays_left = 60 if with_stays else 0
        self.now = 0
        self.parties = 0
        # Most of a line's calls are of the kinds that search for a seating.
        self.kinds = [1] * 6 + [4] * 3 + [3] * 5 + [7] * 3 + [2, 5] + [6] * 3

    def size(self):
        return self.chance.randint(1, max(1, self.seats // self.chance.randint(1, 4)))

    def party(self):
        least = max(1, self.parties - 6)
        return self.chance.randint(least, min(60, self.parties + 1))

    def call(self):
        kind = self.chance.choice(self.kinds)
        if kind == 6 and self.stays_left == 0:
            kind = 1
        if kind == 1:
            return [1, self.size(), max(0, self.now + self.chance.randint(-1, 9)), self.chance.randint(1, 9)]
        if kind == 4:
            return [4, self.size(), self.chance.randint(1, 9)]
        if kind == 6:
            self.stays_left -= 1
            return [6, self.party(), self.chance.randint(1, 5)]
        if kind == 7:
            return [7, self.chance.randint(1, 5)]
        return [kind, self.party()]

    def hear(self, call, answer):
        if answer[0] == 0 and call[0] in (1, 4):
            self.parties += 1
        if answer[0] == 0 and call[0] == 7:
            self.now += call[1]
