"""What a house keeps: its blocks, the time, and its parties with their stages."""

from pushedtables.room import blocks_of, tight_blocks
from pushedtables.seating import Want, can_all_be_given, fewest_left_out, wants_beside

PROMISED = 0
AT_A_TABLE = 1
LEFT = 2
CALLED_OFF = 3
NEVER_CAME = 4


def seats_of(block):
    return block.seats


class Party:
    def __init__(self, number, size, time_from, time_to, stage, block):
        self.number = number
        self.size = size
        self.time_from = time_from
        self.time_to = time_to
        self.stage = stage
        # None as long as it has none.
        self.block = block


class House:
    def __init__(self):
        self.is_open = False
        self.clearing = 0
        self.blocks = []
        self.now = 0
        self.parties = []

    def begin(self, loss, clearing, rows):
        self.is_open = True
        self.clearing = clearing
        self.blocks = blocks_of(rows, loss)

    def party_of(self, number):
        return self.parties[number - 1]

    def promised(self):
        return [party for party in self.parties if party.stage == PROMISED]

    def end_of_use(self, time_to):
        return time_to + self.clearing

    def used_from(self, minute):
        tables = 0
        for party in self.parties:
            # Whoever has a block began to use it by now, and no minute before now is asked for: the end alone decides.
            if party.block is not None and self.end_of_use(party.time_to) > minute:
                tables = tables | party.block.tables
        return tables

    def unused_tight_blocks(self, size, minute):
        used = self.used_from(minute)
        return [block for block in tight_blocks(self.blocks, size) if not block.tables & used]

    def want_of(self, party):
        start = max(party.time_from, self.now)
        # A block that seats a party holds one that is tight for it, so the tight ones are enough.
        choices = [block.tables for block in self.unused_tight_blocks(party.size, start)]
        return Want(start, self.end_of_use(party.time_to), choices)

    def wants_of(self, parties):
        return [self.want_of(party) for party in parties]

    def can_keep(self, promised):
        return can_all_be_given(self.wants_of(promised))

    def block_now(self, size, time_to, promised):
        wants = self.wants_of(promised)
        end = self.end_of_use(time_to)
        # Sorting leaves blocks that seat as many in their order, so the first that will do is the one to take.
        for block in sorted(self.unused_tight_blocks(size, self.now), key=seats_of):
            if can_all_be_given(wants_beside(wants, self.now, end, block.tables)):
                return block
        return None

    def trouble_count(self):
        return len(fewest_left_out(self.wants_of(self.promised())))

    def go_on(self, minutes):
        self.now += minutes
        for party in self.parties:
            if party.time_to <= self.now:
                if party.stage == AT_A_TABLE:
                    party.stage = LEFT
                elif party.stage == PROMISED:
                    party.stage = NEVER_CAME
