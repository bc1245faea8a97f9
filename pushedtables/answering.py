"""The calls on a house. Each answers a list: 0 and what is told, or one number below 0, and then nothing changed.

The refusals stand in each call in the order in which they are due.
"""

from pushedtables.reading import is_in_range
from pushedtables.state import AT_A_TABLE, CALLED_OFF, LEFT, PROMISED, Party

OPEN_CALL = 0
MOST_TABLES = 8
MOST_PARTIES = 60
MOST_PROMISED = 5
LAST_MINUTE = 100000


def block_told(block):
    return [block.row, block.first, block.last]


def party_refusal(house, number, stage):
    if number > len(house.parties):
        return -7
    if house.party_of(number).stage != stage:
        return -8
    return 0


def open_house(house, call):
    if house.is_open:
        return [-3]
    if not call.rows[0] or sum([len(row) for row in call.rows]) > MOST_TABLES:
        return [-5]
    house.begin(call.numbers[0], call.numbers[1], call.rows)
    return [0]


def book(house, call):
    size = call.numbers[0]
    time_from = call.numbers[1]
    time_to = time_from + call.numbers[2]
    promised = house.promised()
    if time_from < house.now:
        return [-6]
    if len(house.parties) >= MOST_PARTIES or len(promised) >= MOST_PROMISED:
        return [-4]
    if not house.can_keep(promised):
        return [-11]
    party = Party(len(house.parties) + 1, size, time_from, time_to, PROMISED, None)
    if not house.can_keep(promised + [party]):
        return [-9]
    house.parties.append(party)
    return [0, party.number]


def cancel(house, call):
    refusal = party_refusal(house, call.numbers[0], PROMISED)
    if refusal:
        return [refusal]
    party = house.party_of(call.numbers[0])
    party.stage = CALLED_OFF
    return [0]


def arrive(house, call):
    refusal = party_refusal(house, call.numbers[0], PROMISED)
    if refusal:
        return [refusal]
    party = house.party_of(call.numbers[0])
    others = [other for other in house.promised() if other.number != party.number]
    block = house.block_now(party.size, party.time_to, others)
    if block is None:
        return [-9]
    party.block = block
    party.time_from = house.now
    party.stage = AT_A_TABLE
    return [0] + block_told(block)


def walkin(house, call):
    size = call.numbers[0]
    time_to = house.now + call.numbers[1]
    if len(house.parties) >= MOST_PARTIES:
        return [-4]
    block = house.block_now(size, time_to, house.promised())
    if block is None:
        return [-9]
    party = Party(len(house.parties) + 1, size, house.now, time_to, AT_A_TABLE, block)
    house.parties.append(party)
    return [0, party.number] + block_told(block)


def leave(house, call):
    refusal = party_refusal(house, call.numbers[0], AT_A_TABLE)
    if refusal:
        return [refusal]
    party = house.party_of(call.numbers[0])
    party.stage = LEFT
    party.time_to = house.now
    return [0]


def stay(house, call):
    refusal = party_refusal(house, call.numbers[0], AT_A_TABLE)
    if refusal:
        return [refusal]
    party = house.party_of(call.numbers[0])
    party.time_to += call.numbers[1]
    return [0, house.trouble_count()]


def pass_time(house, call):
    if house.now + call.numbers[0] > LAST_MINUTE:
        return [-10]
    house.go_on(call.numbers[0])
    return [0, house.now]


ANSWERERS = {
    0: open_house,
    1: book,
    2: cancel,
    3: arrive,
    4: walkin,
    5: leave,
    6: stay,
    7: pass_time,
}


def answer(house, call):
    if not is_in_range(call):
        return [-1]
    if call.number != OPEN_CALL and not house.is_open:
        return [-2]
    answerer = ANSWERERS[call.number]
    return answerer(house, call)
