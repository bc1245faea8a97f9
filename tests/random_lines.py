"""Many lines of calls on small rooms, the same ones every time."""

import random

# The calls of which a line has at most 60.
COUNTED = (6, 9, 10, 11)


def room(chance, most_tables):
    """Three rows, the first not empty."""
    rows = [[], [], []]
    greatest = chance.choice([2, 4, 10])
    for number in range(chance.randint(1, most_tables)):
        row = 0 if number == 0 else chance.choice([0, 0, 0, 1, 2])
        rows[row].append(chance.randint(1, greatest))
    return rows


class LineWriter:
    """Writes a line call by call; it is told the answers, so that it can ask what matters."""

    def __init__(self, seed, with_stays, most_tables=5):
        self.chance = random.Random(seed)
        self.loss = self.chance.randint(0, 3)
        self.clearing = self.chance.choice([0, 1, 3])
        self.rows = room(self.chance, most_tables)
        self.seats = max(1, sum(sum(row) for row in self.rows))
        self.counted_left = 60
        self.now = 0
        self.parties = 0
        # Most of a line's calls are of the kinds that search for a seating.
        self.kinds = [1] * 9 + [4] * 4 + [3] * 5 + [7] * 3 + [2, 5] + [8] * 3 + [9] * 3 + [10, 12, 13, 14, 15]
        if with_stays:
            self.kinds += [6] * 5 + [10] * 3 + [11]

    def size(self):
        return self.chance.randint(1, max(1, self.seats // self.chance.randint(1, 4)))

    def party(self):
        least = max(1, self.parties - 6)
        return self.chance.randint(min(60, least), min(60, self.parties + 1))

    def minutes(self):
        return self.chance.randint(1, 9)

    def call(self):
        kind = self.chance.choice(self.kinds)
        if kind in COUNTED and self.counted_left == 0:
            kind = 1
        if kind in COUNTED:
            self.counted_left -= 1
        if kind == 1:
            time_from = self.now + self.chance.randint(-1, 9)
            return [1, self.size(), min(100000, max(0, time_from)), self.minutes()]
        if kind in (4, 9):
            return [kind, self.size(), self.minutes()]
        if kind == 6:
            return [6, self.party(), self.minutes()]
        if kind == 7:
            return [7, self.chance.randint(1, 5)]
        if kind == 12:
            return [12, self.size()]
        if kind in (8, 10, 11, 13, 15):
            return [kind]
        return [kind, self.party()]

    def hear(self, call, answer):
        if answer[0] == 0 and call[0] in (1, 4):
            self.parties += 1
        if answer[0] == 0 and call[0] == 7:
            self.now += call[1]


def late_line(seed):
    """The rooms, and calls behind open: a full house, promises close behind it, then some who stay longer."""
    chance = random.Random(seed)
    rows = room(chance, 6)
    loss = chance.randint(0, 2)
    calls = [[4, chance.randint(1, 4), chance.randint(4, 8)] for number in range(6)]
    calls += [[1, chance.randint(1, 6), chance.randint(4, 12), chance.randint(2, 9)] for number in range(12)]
    calls += [[7, chance.randint(1, 3)]]
    for number in range(6):
        calls += [[6, chance.randint(1, 6), chance.randint(1, 8)], [10]]
    return loss, chance.choice([0, 2]), rows, calls + [[8], [11], [10], [8]]
