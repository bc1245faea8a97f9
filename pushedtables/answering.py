"""The calls on a house. Each answers a list: 0 and what is told, or one number below 0, and then nothing changed.

The refusals stand in each call in the order in which they are due.
"""

from pushedtables.reading import is_in_range
from pushedtables.state import AT_A_TABLE, CALLED_OFF, LEFT, PROMISED, TOLD_OFF, Party

OPEN_CALL = 0
MOST_TABLES = 8
MOST_PARTIES = 60
MOST_PROMISED = 5
LAST_MINUTE = 100000


def block_told(block):
    return [block.row, block.first, block.last]


def parties_told(parties):
    return [len(parties)] + [party.number for party in parties]


def has_party(house, number):
    return number <= len(house.parties)


def party_refusal(house, number, stage):
    if not has_party(house, number):
        return -7
    if house.party_of(number).stage != stage:
        return -8
    return 0


def count_of_tables(rows):
    return sum([len(row) for row in rows])


def is_full(house):
    return len(house.parties) >= MOST_PARTIES or len(house.promised()) >= MOST_PROMISED


def open_house(house, call):
    if house.is_open:
        return [-3]
    if not call.rows[0] or count_of_tables(call.rows) > MOST_TABLES:
        return [-5]
    house.begin(call.numbers[0], call.numbers[1], call.rows)
    return [0]


def book(house, call):
    party = house.party_to_promise(call.numbers[0], call.numbers[1], call.numbers[2])
    promised = house.promised()
    if party.time_from < house.now:
        return [-6]
    if is_full(house):
        return [-4]
    if not house.can_keep(promised):
        return [-11]
    if not house.can_keep(promised + [party]):
        return [-9]
    house.parties.append(party)
    return [0, party.number]


def cancel(house, call):
    refusal = party_refusal(house, call.numbers[0], PROMISED)
    if refusal:
        return [refusal]
    party = house.party_of(call.numbers[0])
    party.stage = CALLED_OFF
    return [0]


def arrive(house, call):
    refusal = party_refusal(house, call.numbers[0], PROMISED)
    if refusal:
        return [refusal]
    party = house.party_of(call.numbers[0])
    others = [other for other in house.promised() if other.number != party.number]
    block = house.block_now(party.size, party.time_to, others)
    if block is None:
        return [-9]
    party.block = block
    party.time_from = house.now
    party.stage = AT_A_TABLE
    return [0] + block_told(block)


def walkin(house, call):
    size = call.numbers[0]
    time_to = house.now + call.numbers[1]
    if len(house.parties) >= MOST_PARTIES:
        return [-4]
    block = house.block_now(size, time_to, house.promised())
    if block is None:
        return [-9]
    party = Party(len(house.parties) + 1, size, house.now, time_to, AT_A_TABLE, block)
    house.parties.append(party)
    return [0, party.number] + block_told(block)


def leave(house, call):
    refusal = party_refusal(house, call.numbers[0], AT_A_TABLE)
    if refusal:
        return [refusal]
    party = house.party_of(call.numbers[0])
    party.stage = LEFT
    party.time_to = house.now
    return [0]


def stay(house, call):
    refusal = party_refusal(house, call.numbers[0], AT_A_TABLE)
    if refusal:
        return [refusal]
    party = house.party_of(call.numbers[0])
    party.time_to += call.numbers[1]
    return [0, len(house.in_trouble())]


def pass_time(house, call):
    if house.now + call.numbers[0] > LAST_MINUTE:
        return [-10]
    house.go_on(call.numbers[0])
    return [0, house.now]


def plan(house, call):
    parties = house.promised_by_time()
    if not house.can_keep(parties):
        return [-11]
    told = [0, len(parties)]
    for party, block in zip(parties, house.blocks_told(parties)):
        told.append(party.number)
        told.extend(block_told(block))
    return told


def quote(house, call):
    if is_full(house):
        return [-4]
    minute = house.earliest_promise(call.numbers[0], call.numbers[1])
    if minute is None or minute > LAST_MINUTE:
        return [0, 0]
    return [0, 1, minute]


def trouble(house, call):
    return [0] + parties_told(house.in_trouble())


def tell_off(house, call):
    parties = house.in_trouble()
    for party in parties:
        party.stage = TOLD_OFF
    return [0] + parties_told(parties)


def free_now(house, call):
    blocks = house.unused_tight_blocks(call.numbers[0], house.now)
    told = [0, len(blocks)]
    for block in blocks:
        told.extend(block_told(block))
    return told


def tables_now(house, call):
    told = [0]
    for place in range(count_of_tables(house.rows)):
        party = house.user_of_table(place)
        if party is None:
            told.extend([0, 0])
        else:
            told.extend([party.number, house.end_of_use(party.time_to)])
    return told


def party_now(house, call):
    if not has_party(house, call.numbers[0]):
        return [-7]
    party = house.party_of(call.numbers[0])
    block = [0, 0, 0] if party.block is None else block_told(party.block)
    return [0, party.size, party.time_from, party.time_to, party.stage] + block


def state_now(house, call):
    promised = house.promised()
    told = [0, house.now, len(house.parties), len(promised), len(house.at_stage(AT_A_TABLE))]
    told.extend([1 if house.can_keep(promised) else 0, house.loss, house.clearing])
    for row in house.rows:
        told.append(len(row))
        told.extend(row)
    return told


ANSWERERS = {
    0: open_house,
    1: book,
    2: cancel,
    3: arrive,
    4: walkin,
    5: leave,
    6: stay,
    7: pass_time,
    8: plan,
    9: quote,
    10: trouble,
    11: tell_off,
    12: free_now,
    13: tables_now,
    14: party_now,
    15: state_now,
}


def answer(house, call):
    if not is_in_range(call):
        return [-1]
    if call.number != OPEN_CALL and not house.is_open:
        return [-2]
    answerer = ANSWERERS[call.number]
    return answerer(house, call)
