"""A house that goes through all seatings, table by table and minute by minute, to hold the program's answers against.

It takes nothing from the package. It is slow, and for small rooms and short times.
"""


class PlainParty:
    def __init__(self, size, time_from, time_to, stage, block=None):
        self.size = size
        self.time_from = time_from
        self.time_to = time_to
        self.stage = stage
        self.block = block


class PlainHouse:
    def __init__(self, loss, clearing, rows):
        self.loss = loss
        self.clearing = clearing
        self.rows = rows
        self.now = 0
        self.parties = []
        self.blocks = []
        for row in range(1, len(rows) + 1):
            for first in range(1, len(rows[row - 1]) + 1):
                for last in range(first, len(rows[row - 1]) + 1):
                    self.blocks.append((row, first, last))

    def seats(self, block):
        row, first, last = block
        total = 0
        for table in range(first, last + 1):
            total += self.rows[row - 1][table - 1]
        return max(0, total - self.loss * (last - first))

    def is_tight(self, block, size):
        row, first, last = block
        if self.seats(block) < size:
            return False
        if first == last:
            return True
        return self.seats((row, first + 1, last)) < size and self.seats((row, first, last - 1)) < size

    def cells(self, block, start, time_to):
        """Each table of the block at each minute, clearing and all."""
        row, first, last = block
        return {(row, table, minute)
                for table in range(first, last + 1)
                for minute in range(start, time_to + self.clearing)}

    def used(self):
        """All that is used; fails if a table is used twice at one minute."""
        taken = set()
        for party in self.parties:
            if party.block is not None:
                own = self.cells(party.block, party.time_from, party.time_to)
                assert not own & taken, "a table is used by two parties at one minute"
                taken |= own
        return taken

    def seating_is_there(self, parties, taken):
        """Whether the parties can all be given blocks, tight or not, beside what is taken."""
        if not parties:
            return True
        party = parties[0]
        for block in self.blocks:
            if self.seats(block) >= party.size:
                own = self.cells(block, max(party.time_from, self.now), party.time_to)
                if not own & taken and self.seating_is_there(parties[1:], taken | own):
                    return True
        return False

    def promised(self):
        return [party for party in self.parties if party.stage == 0]

    def all_can_be_kept(self):
        return self.seating_is_there(self.promised(), self.used())

    def blocks_now(self, size, time_to, others):
        """All blocks, tight or not, at which the size can be seated now beside the others' promises."""
        taken = self.used()
        found = []
        for block in self.blocks:
            if self.seats(block) >= size:
                own = self.cells(block, self.now, time_to)
                if not own & taken and self.seating_is_there(others, taken | own):
                    found.append(block)
        return found

    def block_now(self, size, time_to, others):
        found = self.blocks_now(size, time_to, others)
        tight = [block for block in found if self.is_tight(block, size)]
        assert bool(found) == bool(tight), "somebody is turned away for want of a tight block alone"
        return min(tight, key=lambda block: (self.seats(block), block), default=None)

    def number_of(self, party):
        return self.parties.index(party) + 1

    def lists_in_trouble(self):
        """All lists of promised parties, as few as will do, without whom the others' promises can be kept."""
        promised = self.promised()
        taken = self.used()
        found = {}
        for chosen in range(2 ** len(promised)):
            rest = [party for place, party in enumerate(promised) if not chosen >> place & 1]
            numbers = [self.number_of(party) for party in promised if party not in rest]
            if len(numbers) <= min(found, default=len(promised)) and self.seating_is_there(rest, taken):
                found.setdefault(len(numbers), []).append(numbers)
        return found[min(found)]

    def in_trouble(self):
        return min(self.lists_in_trouble())

    def answer(self, call):
        """The answer to a call whose numbers are all in their ranges, on the house that is open."""
        answerers = (self.opening, self.book, self.cancel, self.arrive, self.walkin, self.leave, self.stay, self.passing,
                     self.plan, self.quote, self.trouble, self.telloff, self.free, self.tables, self.party, self.state)
        return answerers[call[0]](*call[1:])

    def opening(self, *numbers):
        return [-3]

    def refusal(self, number, stage):
        if number > len(self.parties):
            return [-7]
        if self.parties[number - 1].stage != stage:
            return [-8]
        return None

    def book(self, size, time_from, minutes):
        if time_from < self.now:
            return [-6]
        if len(self.parties) == 60 or len(self.promised()) == 5:
            return [-4]
        if not self.all_can_be_kept():
            return [-11]
        self.parties.append(PlainParty(size, time_from, time_from + minutes, 0))
        if not self.all_can_be_kept():
            self.parties.pop()
            return [-9]
        return [0, len(self.parties)]

    def cancel(self, number):
        if self.refusal(number, 0):
            return self.refusal(number, 0)
        self.parties[number - 1].stage = 3
        return [0]

    def arrive(self, number):
        if self.refusal(number, 0):
            return self.refusal(number, 0)
        party = self.parties[number - 1]
        others = [other for other in self.promised() if other is not party]
        block = self.block_now(party.size, party.time_to, others)
        if block is None:
            return [-9]
        party.stage = 1
        party.time_from = self.now
        party.block = block
        return [0] + list(block)

    def walkin(self, size, minutes):
        if len(self.parties) == 60:
            return [-4]
        block = self.block_now(size, self.now + minutes, self.promised())
        if block is None:
            return [-9]
        self.parties.append(PlainParty(size, self.now, self.now + minutes, 1, block))
        return [0, len(self.parties)] + list(block)

    def leave(self, number):
        if self.refusal(number, 1):
            return self.refusal(number, 1)
        self.parties[number - 1].stage = 2
        self.parties[number - 1].time_to = self.now
        return [0]

    def stay(self, number, minutes):
        if self.refusal(number, 1):
            return self.refusal(number, 1)
        self.parties[number - 1].time_to += minutes
        return [0, len(self.in_trouble())]

    def passing(self, minutes):
        if self.now + minutes > 100000:
            return [-10]
        self.now += minutes
        for party in self.parties:
            if party.time_to <= self.now and party.stage == 1:
                party.stage = 2
            if party.time_to <= self.now and party.stage == 0:
                party.stage = 4
        return [0, self.now]

    def plan(self):
        if not self.all_can_be_kept():
            return [-11]
        left = sorted(self.promised(), key=lambda party: (party.time_from, self.number_of(party)))
        taken = self.used()
        told = [0, len(left)]
        while left:
            party = left.pop(0)
            block = min(block for block in self.blocks if self.can_be_told(party, block, left, taken))
            taken = taken | self.cells(block, max(party.time_from, self.now), party.time_to)
            told += [self.number_of(party), *block]
        return told

    def can_be_told(self, party, block, rest, taken):
        own = self.cells(block, max(party.time_from, self.now), party.time_to)
        return self.is_tight(block, party.size) and not own & taken and self.seating_is_there(rest, taken | own)

    def quote(self, size, minutes):
        if len(self.parties) == 60 or len(self.promised()) == 5:
            return [-4]
        # At the last of these nobody uses or wants a table any more, and every later minute is like it.
        ends = [party.time_to + self.clearing for party in self.parties if party.stage in (0, 1, 2)]
        for minute in range(self.now, min(100000, max([self.now] + ends)) + 1):
            self.parties.append(PlainParty(size, minute, minute + minutes, 0))
            found = self.all_can_be_kept()
            self.parties.pop()
            if found:
                return [0, 1, minute]
        return [0, 0]

    def trouble(self):
        numbers = self.in_trouble()
        return [0, len(numbers)] + numbers

    def telloff(self):
        told = self.trouble()
        for number in told[2:]:
            self.parties[number - 1].stage = 5
        return told

    def free(self, size):
        used = {(row, table) for row, table, minute in self.used() if minute == self.now}
        found = []
        for row, first, last in self.blocks:
            tables = {(row, table) for table in range(first, last + 1)}
            if self.is_tight((row, first, last), size) and not tables & used:
                found += [row, first, last]
        return [0, len(found) // 3] + found

    def tables(self):
        told = [0]
        for row in range(1, len(self.rows) + 1):
            for table in range(1, len(self.rows[row - 1]) + 1):
                told += self.use_of(row, table)
        return told

    def use_of(self, row, table):
        for party in self.parties:
            if party.block is not None:
                own = self.cells(party.block, party.time_from, party.time_to)
                if (row, table, self.now) in own:
                    free_from = self.now
                    while (row, table, free_from) in own:
                        free_from += 1
                    return [self.number_of(party), free_from]
        return [0, 0]

    def party(self, number):
        if number > len(self.parties):
            return [-7]
        party = self.parties[number - 1]
        return [0, party.size, party.time_from, party.time_to, party.stage, *(party.block or (0, 0, 0))]

    def state(self):
        stages = [party.stage for party in self.parties]
        told = [0, self.now, len(stages), stages.count(0), stages.count(1), int(self.all_can_be_kept())]
        told += [self.loss, self.clearing]
        for row in self.rows:
            told += [len(row), *row]
        return told
