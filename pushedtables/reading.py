"""How calls lie in one list of whole numbers, and the ranges of their numbers."""

# For each call, by its number, the least and the greatest of each of its whole numbers.
RANGES = {
    0: ((0, 3), (0, 60)),
    1: ((1, 80), (0, 100000), (1, 600)),
    2: ((1, 60),),
    3: ((1, 60),),
    4: ((1, 80), (1, 600)),
    5: ((1, 60),),
    6: ((1, 60), (1, 600)),
    7: ((1, 1000),),
    8: (),
    9: ((1, 80), (1, 600)),
    10: (),
    11: (),
    12: ((1, 80),),
    13: (),
    14: ((1, 60),),
    15: (),
}

# How many rows a call has behind its whole numbers; the others have none.
ROW_COUNTS = {0: 3}

LONGEST_ROW = 8
MOST_SEATS = 10


class Call:
    def __init__(self, number, numbers, rows, place_behind):
        self.number = number
        self.numbers = numbers
        self.rows = rows
        # Where in the list the next call begins.
        self.place_behind = place_behind


def read_call(calls, place):
    number = calls[place]
    row_place = place + 1 + len(RANGES[number])
    numbers = calls[place + 1:row_place]
    rows = []
    while len(rows) < ROW_COUNTS.get(number, 0):
        row_end = row_place + 1 + calls[row_place]
        rows.append(calls[row_place + 1:row_end])
        row_place = row_end
    return Call(number, numbers, rows, row_place)


def is_row_in_range(row):
    if len(row) > LONGEST_ROW:
        return False
    return all([1 <= seats <= MOST_SEATS for seats in row])


def is_in_range(call):
    for number, limits in zip(call.numbers, RANGES[call.number]):
        if number < limits[0] or number > limits[1]:
            return False
    return all([is_row_in_range(row) for row in call.rows])
