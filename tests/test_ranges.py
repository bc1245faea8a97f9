"""-1 at either side of each range and for lists, -2 without an open house, and that -1 is told ahead of -2."""

import unittest

from lines import GREATEST, LEAST, book, last, opening, party, passing, quote, sight, stay, told, walkin

SIZE = (1, 80)
MINUTES = (1, 600)
PARTY = (1, 60)

# For each call a call whose numbers are all in range, and the ranges of its numbers.
RANGES = {
    "book": ([1, 2, 5, 10], (SIZE, (0, 100000), MINUTES)),
    "cancel": ([2, 1], (PARTY,)),
    "arrive": ([3, 1], (PARTY,)),
    "walkin": ([4, 2, 10], (SIZE, MINUTES)),
    "leave": ([5, 1], (PARTY,)),
    "stay": ([6, 1, 10], (PARTY, MINUTES)),
    "pass": ([7, 10], ((1, 1000),)),
    "plan": ([8], ()),
    "quote": ([9, 2, 10], (SIZE, MINUTES)),
    "trouble": ([10], ()),
    "telloff": ([11], ()),
    "free": ([12, 2], (SIZE,)),
    "tables": ([13], ()),
    "party": ([14, 1], (PARTY,)),
    "state": ([15], ()),
}
OPENING_RANGES = ((0, 3), (0, 60))
HOUSE = opening(1, 10, [4, 4], [2])
BEFORE = [book(6, 40, 20), walkin(2, 20), book(2, 60, 10), stay(2, 50)]


def changed(call, place, number):
    return call[:place] + [number] + call[place + 1:]


def cases():
    """Each number of each call: the call, the number's place, its range."""
    for name, (call, ranges) in RANGES.items():
        for place, limits in enumerate(ranges, start=1):
            yield name, call, place, limits


class Ranges(unittest.TestCase):
    def test_outside_at_either_side(self):
        for name, call, place, (least, greatest) in cases():
            for number in (least - 1, greatest + 1, LEAST, GREATEST, -1):
                with self.subTest(call=name, place=place, number=number):
                    wrong = changed(call, place, number)
                    self.assertEqual(told(HOUSE, wrong, passing(3)), [[0], [-1], [0, 3]])
                    given = told(HOUSE, *BEFORE, *sight(3), wrong, *sight(3))
                    self.assertEqual(given[11], [-1])
                    self.assertEqual(given[5:11], given[12:])

    def test_the_ends_are_inside(self):
        for name, call, place, limits in cases():
            for number in limits:
                with self.subTest(call=name, place=place, number=number):
                    self.assertNotEqual(last(HOUSE, changed(call, place, number)), [-1])

    def test_without_a_house(self):
        for name, (call, ranges) in RANGES.items():
            with self.subTest(call=name):
                self.assertEqual(told(call, HOUSE, passing(3)), [[-2], [0], [0, 3]])

    def test_every_call_has_its_row_here(self):
        self.assertEqual(sorted(call[0] for call, ranges in RANGES.values()), list(range(1, 16)))
        for name, (call, ranges) in RANGES.items():
            self.assertEqual(len(call), 1 + len(ranges), name)

    def test_without_a_house_after_a_refused_opening(self):
        for name, (call, ranges) in RANGES.items():
            with self.subTest(call=name):
                self.assertEqual(told(opening(0, 0, []), call, opening(4, 0, [1]), call), [[-5], [-2], [-1], [-2]])

    def test_the_range_is_told_ahead_of_the_missing_house(self):
        for name, call, place, (least, greatest) in cases():
            for number in (least - 1, greatest + 1):
                with self.subTest(call=name, place=place, number=number):
                    self.assertEqual(told(changed(call, place, number)), [[-1]])

    def test_the_range_is_told_ahead_of_what_is_told_with_the_call(self):
        self.assertEqual(last(HOUSE, passing(9), book(2, 3, 601)), [-1])
        self.assertEqual(last(HOUSE, [2, 61]), [-1])
        self.assertEqual(last(HOUSE, [6, 60, 601]), [-1])
        self.assertEqual(last(HOUSE, walkin(80, 0)), [-1])
        self.assertEqual(last(HOUSE, party(61)), [-1])
        self.assertEqual(last(HOUSE, *[book(1, 20 * number, 10) for number in range(5)], quote(0, 10)), [-1])
        self.assertEqual(last(HOUSE, *[passing(1000)] * 100, passing(1001)), [-1])
        self.assertEqual(last(HOUSE, opening(4, 0, [2])), [-1])
        self.assertEqual(last(HOUSE, opening(0, 0, [])), [-3])


class OpeningRanges(unittest.TestCase):
    def test_numbers_outside(self):
        for place, (least, greatest) in enumerate(OPENING_RANGES, start=1):
            for number in (least - 1, greatest + 1, LEAST, GREATEST):
                with self.subTest(place=place, number=number):
                    wrong = changed(HOUSE, place, number)
                    self.assertEqual(told(wrong, passing(1), HOUSE), [[-1], [-2], [0]])

    def test_the_ends_are_inside(self):
        for place, limits in enumerate(OPENING_RANGES, start=1):
            for number in limits:
                with self.subTest(place=place, number=number):
                    self.assertEqual(told(changed(HOUSE, place, number)), [[0]])

    def test_seats_outside(self):
        for seats in (0, 11, -1, LEAST, GREATEST):
            for row in ([seats], [seats, 2, 2], [2, 2, seats]):
                for rows in ((row, [], []), ([2], row, []), ([2], [2], row)):
                    with self.subTest(rows=rows):
                        self.assertEqual(told(opening(0, 0, *rows), passing(1), HOUSE), [[-1], [-2], [0]])

    def test_seats_at_the_ends(self):
        for seats in (1, 10):
            for rows in (([seats], [], []), ([2], [seats], []), ([2], [], [seats])):
                self.assertEqual(told(opening(0, 0, *rows)), [[0]])

    def test_rows_that_are_too_long(self):
        for length in (9, 10, 99, 100):
            row = [1] * length
            for rows in ((row, [], []), ([1], row, []), ([1], [], row), (row, row, row)):
                with self.subTest(length=length):
                    self.assertEqual(told(opening(0, 0, *rows), passing(1), HOUSE), [[-1], [-2], [0]])

    def test_rows_of_eight(self):
        self.assertEqual(told(opening(0, 0, [1] * 8)), [[0]])
        # A row of eight is in its range, so what is wrong here is told with the call.
        self.assertEqual(told(opening(0, 0, [], [1] * 8)), [[-5]])
        self.assertEqual(told(opening(0, 0, [], [], [1] * 8)), [[-5]])

    def test_the_range_is_told_first(self):
        self.assertEqual(told(opening(0, 0, [], [11])), [[-1]])
        self.assertEqual(told(opening(0, 61, [])), [[-1]])
        self.assertEqual(told(opening(0, 0, [], [1] * 9)), [[-1]])
        self.assertEqual(told(HOUSE, opening(0, 0, [11])), [[0], [-1]])

    def test_long_lists_of_great_numbers(self):
        row = [GREATEST, LEAST] * 50
        self.assertEqual(told(opening(GREATEST, LEAST, row, row, row), HOUSE), [[-1], [0]])


if __name__ == "__main__":
    unittest.main()
