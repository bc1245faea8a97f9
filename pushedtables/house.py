"""The one function that the package offers: what a new house answers to a list of calls."""

from pushedtables.answering import answer
from pushedtables.reading import read_call
from pushedtables.state import House


def answers(calls):
    house = House()
    told = []
    place = 0
    while place < len(calls):
        call = read_call(calls, place)
        numbers = answer(house, call)
        told.append(len(numbers))
        told.extend(numbers)
        place = call.place_behind
    return told
