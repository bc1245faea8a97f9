"""The longest lines: 400 calls of all kinds, 8 tables, 5 promised parties, 60 searching calls, 16000 numbers."""

import random
import unittest

from lines import (GREATEST, LEAST, PLAN, STATE, TABLES, TELLOFF, TROUBLE, arrive, book, cancel, flat, free, leave, opening,
                   party, passing, quote, stay, told, walkin)
from plain_search import PlainHouse
from random_lines import COUNTED


def crowded_line(seed):
    """400 calls on 8 tables: the house is kept at five promised ones, and 60 of the calls are counted ones."""
    chance = random.Random(seed)
    seats = [chance.randint(1, 6) for number in range(8)]
    rows = ([seats, [], []], [seats[:4], seats[4:], []], [seats[:3], seats[3:6], seats[6:]])[seed % 3]
    loss = chance.randint(0, 2)
    house = PlainHouse(loss, 3, rows)
    calls = [opening(loss, 3, *rows)]
    expected = [[0]]
    counted_places = sorted(chance.sample(range(20, 400), 60))
    while len(calls) < 400:
        call = counted_call(chance, house) if len(calls) in counted_places else next_call(chance, house)
        calls.append(call)
        expected.append(house.answer(call))
    return calls, expected


def numbers_of(house, stage):
    return [number for number, party in enumerate(house.parties, start=1) if party.stage == stage] or [60]


def counted_call(chance, house):
    kind = chance.randrange(10)
    if kind < 4:
        return stay(chance.choice(numbers_of(house, 1)), chance.randint(1, 8))
    if kind < 7:
        return quote(chance.randint(1, 9), chance.randint(1, 12))
    return TELLOFF if kind == 9 else TROUBLE


def next_call(chance, house):
    size = chance.randint(1, 9)
    if len(house.promised()) < 5 and len(house.parties) < 60 and chance.random() < 0.5:
        return book(size, house.now + chance.randint(0, 12), chance.randint(3, 12))
    kind = chance.randrange(30)
    if kind < 4:
        return arrive(chance.choice(numbers_of(house, 0)))
    if kind < 8:
        return walkin(size, chance.randint(1, 12))
    if kind < 10:
        return leave(chance.choice(numbers_of(house, 1)))
    if kind < 13:
        return passing(chance.randint(1, 3))
    looks = (PLAN, PLAN, free(size), free(size), TABLES, STATE, party(chance.randint(1, 60)),
             cancel(chance.choice(numbers_of(house, 0))), opening(0, 0, [1]))
    return chance.choice(looks)


class LongLines(unittest.TestCase):
    def test_crowded_lines_of_400_calls(self):
        for seed in range(6):
            calls, expected = crowded_line(seed)
            self.assertEqual(sum(call[0] in COUNTED for call in calls), 60)
            self.assertEqual({call[0] for call in calls}, set(range(16)))
            self.assertEqual(told(*calls), expected, seed)

    def test_everybody_is_refused_over_and_over(self):
        house = opening(0, 60, [5] * 8)
        promised = [book(10, 100, 600)] * 4
        refused = [book(5, 100, 600), walkin(5, 600), book(5, 699, 1)] * 111
        stays = [walkin(40, 30)] + [stay(5, 1)] * 60
        given = told(house, *promised, *refused, *stays, walkin(1, 1))
        self.assertEqual(len(given), 400)
        self.assertEqual(given[1:5], [[0, 1], [0, 2], [0, 3], [0, 4]])
        self.assertEqual(given[5:338], [[-9]] * 333)
        self.assertEqual(given[338], [0, 5, 1, 1, 8])
        self.assertEqual(given[339:], [[0, 0]] * 10 + [[0, 4]] * 50 + [[-9]])

    def test_five_long_promises_that_leave_no_table(self):
        house = opening(0, 0, [2, 2, 2, 2, 2, 2, 2, 2])
        promised = [book(4, 50, 9), book(4, 50, 9), book(4, 50, 9), book(2, 50, 9), book(2, 50, 9)]
        given = told(house, *promised, *[walkin(2, 51)] * 334, *[walkin(16, 50)], *[stay(6, 1)] * 59)
        self.assertEqual(given[6:340], [[-9]] * 334)
        self.assertEqual(given[340:], [[0, 6, 1, 1, 8]] + [[0, 5]] * 59)

    def test_sixteen_thousand_numbers(self):
        row = [LEAST, GREATEST] * 50
        calls = [opening(LEAST, GREATEST, row, row, row)] * 52
        self.assertLessEqual(len(flat(calls)), 16000)
        self.assertEqual(told(*calls), [[-1]] * 52)

    def test_one_call(self):
        self.assertEqual(told(opening(0, 0, [1])), [[0]])
        self.assertEqual(told(passing(1)), [[-2]])


if __name__ == "__main__":
    unittest.main()
