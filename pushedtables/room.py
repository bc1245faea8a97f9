"""The room: its blocks in order, what they seat, and which of them are tight for a size."""


class Block:
    def __init__(self, row, first, last, seats, seats_with_one_less, tables):
        self.row = row
        self.first = first
        self.last = last
        self.seats = seats
        # The most it seats without its first table or without its last one: all that being tight asks for.
        self.seats_with_one_less = seats_with_one_less
        # One bit for each of its tables, so that two blocks are compared in one step.
        self.tables = tables


def seats_together(tables, loss):
    # No tables have no joins either, and the count below would be one short of that.
    if not tables:
        return 0
    return max(0, sum(tables) - loss * (len(tables) - 1))


def block_of_row(number, row, first, last, loss, tables_before):
    tables = row[first - 1:last]
    with_one_less = max(seats_together(tables[1:], loss), seats_together(tables[:-1], loss))
    bits = ((1 << len(tables)) - 1) << (tables_before + first - 1)
    return Block(number, first, last, seats_together(tables, loss), with_one_less, bits)


def blocks_of(rows, loss):
    blocks = []
    tables_before = 0
    for number, row in enumerate(rows, start=1):
        for first in range(1, len(row) + 1):
            for last in range(first, len(row) + 1):
                blocks.append(block_of_row(number, row, first, last, loss, tables_before))
        tables_before += len(row)
    return blocks


def tight_blocks(blocks, size):
    # A size is 1 or more, so a block of one table, which seats 0 with one less, is never barred by that.
    return [block for block in blocks if block.seats_with_one_less < size <= block.seats]
