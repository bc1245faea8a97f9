"""What a house keeps: its room, the time, and its parties with their stages; and what follows from these."""

from pushedtables.room import blocks_of, tight_blocks
from pushedtables.seating import Want, can_all_be_given, fewest_left_out, seating_told, wants_beside

PROMISED = 0
AT_A_TABLE = 1
LEFT = 2
CALLED_OFF = 3
NEVER_CAME = 4
TOLD_OFF = 5


def seats_of(block):
    return block.seats


def time_from_of(party):
    return party.time_from


class Party:
    def __init__(self, number, size, time_from, time_to, stage, block):
        self.number = number
        self.size = size
        self.time_from = time_from
        self.time_to = time_to
        self.stage = stage
        # None as long as it has none.
        self.block = block


class House:
    def __init__(self):
        self.is_open = False
        self.loss = 0
        self.clearing = 0
        self.rows = []
        self.blocks = []
        self.now = 0
        self.parties = []

    def begin(self, loss, clearing, rows):
        self.is_open = True
        self.loss = loss
        self.clearing = clearing
        self.rows = rows
        self.blocks = blocks_of(rows, loss)

    def party_of(self, number):
        return self.parties[number - 1]

    def at_stage(self, stage):
        return [party for party in self.parties if party.stage == stage]

    def promised(self):
        return self.at_stage(PROMISED)

    def promised_by_time(self):
        # Sorting leaves those of one time in the order of their numbers.
        return sorted(self.promised(), key=time_from_of)

    def party_to_promise(self, size, time_from, minutes):
        return Party(len(self.parties) + 1, size, time_from, time_from + minutes, PROMISED, None)

    def end_of_use(self, time_to):
        return time_to + self.clearing

    def users_from(self, minute):
        # Whoever has a block began to use it by now, and no minute before now is asked for: the end alone decides.
        seated = [party for party in self.parties if party.block is not None]
        return [party for party in seated if self.end_of_use(party.time_to) > minute]

    def used_from(self, minute):
        tables = 0
        for party in self.users_from(minute):
            tables = tables | party.block.tables
        return tables

    def user_of_table(self, place):
        for party in self.users_from(self.now):
            if party.block.tables & (1 << place):
                return party
        return None

    def unused_tight_blocks(self, size, minute):
        used = self.used_from(minute)
        return [block for block in tight_blocks(self.blocks, size) if not block.tables & used]

    def want_of(self, party):
        start = max(party.time_from, self.now)
        # A block that seats a party holds one that is tight for it, so the tight ones are enough.
        choices = [block.tables for block in self.unused_tight_blocks(party.size, start)]
        return Want(start, self.end_of_use(party.time_to), choices)

    def wants_of(self, parties):
        return [self.want_of(party) for party in parties]

    def can_keep(self, promised):
        return can_all_be_given(self.wants_of(promised))

    def block_now(self, size, time_to, promised):
        wants = self.wants_of(promised)
        end = self.end_of_use(time_to)
        # Sorting leaves blocks that seat as many in their order, so the first that will do is the one to take.
        for block in sorted(self.unused_tight_blocks(size, self.now), key=seats_of):
            if can_all_be_given(wants_beside(wants, self.now, end, block.tables)):
                return block
        return None

    def block_with(self, tables):
        return [block for block in self.blocks if block.tables == tables][0]

    def blocks_told(self, parties):
        return [self.block_with(tables) for tables in seating_told(self.wants_of(parties))]

    def minutes_to_try(self):
        # Who could begin at a minute could begin one sooner in the same seating, unless a table comes free at that very
        # minute: so the earliest one is now or such an end.
        ends = [self.end_of_use(party.time_to) for party in self.users_from(self.now) + self.promised()]
        return sorted(set([self.now] + ends))

    def earliest_promise(self, size, minutes):
        promised = self.promised()
        for minute in self.minutes_to_try():
            if self.can_keep(promised + [self.party_to_promise(size, minute, minutes)]):
                return minute
        return None

    def in_trouble(self):
        # The promised ones are in the order of their numbers, so the least list of places is the least of numbers too.
        promised = self.promised()
        return [promised[place] for place in fewest_left_out(self.wants_of(promised))]

    def go_on(self, minutes):
        self.now += minutes
        for party in self.parties:
            if party.time_to <= self.now:
                if party.stage == AT_A_TABLE:
                    party.stage = LEFT
                elif party.stage == PROMISED:
                    party.stage = NEVER_CAME
