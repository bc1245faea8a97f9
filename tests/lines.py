"""Lines of calls as the tests write them, and their answers call by call."""

from pushedtables.house import answers

LEAST = -1000000000000000000
GREATEST = 1000000000000000000


def opening(loss, clearing, first, second=(), third=()):
    call = [0, loss, clearing]
    for row in (first, second, third):
        call = call + [len(row)] + list(row)
    return call


def book(size, time_from, minutes):
    return [1, size, time_from, minutes]


def cancel(party):
    return [2, party]


def arrive(party):
    return [3, party]


def walkin(size, minutes):
    return [4, size, minutes]


def leave(party):
    return [5, party]


def stay(party, minutes):
    return [6, party, minutes]


def passing(minutes):
    return [7, minutes]


PLAN = [8]
TROUBLE = [10]
TELLOFF = [11]
TABLES = [13]
STATE = [15]


def quote(size, minutes):
    return [9, size, minutes]


def free(size):
    return [12, size]


def party(number):
    return [14, number]


def flat(calls):
    return [number for call in calls for number in call]


def parted(told):
    """The answers of a line, one list for each call."""
    parts = []
    place = 0
    while place < len(told):
        end = place + 1 + told[place]
        if told[place] < 1 or end > len(told):
            raise AssertionError("a count does not fit: " + str(told[place]))
        parts.append(told[place + 1:end])
        place = end
    return parts


def told(*calls):
    """The answers to the calls; sees to it that what is handed in stays, and that a second time answers the same."""
    line = flat(calls)
    kept = list(line)
    first = answers(line)
    if line != kept:
        raise AssertionError("what was handed in has changed")
    if answers(line) != first:
        raise AssertionError("a second time answers otherwise")
    if {int} != {type(number) for number in first}:
        raise AssertionError("not only whole numbers are answered")
    parts = parted(first)
    if len(parts) != len(calls):
        raise AssertionError("not every call is answered once")
    return parts


def last(*calls):
    """The answer to the last of the calls."""
    return told(*calls)[-1]


def sight(parties):
    """Calls that together tell all that can be seen of a house with so many parties, but for who is promised what."""
    return [STATE, TABLES, PLAN] + [party(number) for number in range(1, parties + 1)]
