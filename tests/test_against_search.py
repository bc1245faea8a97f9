"""The program's answers, held against a plain search through all seatings, over many lines of calls."""

import unittest

from lines import PLAN, STATE, TABLES, TROUBLE, book, flat, free, opening, passing, quote, told
from plain_search import PlainHouse
from random_lines import COUNTED, LineWriter, late_line

CALLS_OF_A_LINE = 60
# Passings that lead a house close to the last minute there is.
TO_THE_END = [passing(1000)] * 99 + [passing(988)]


class Line:
    """A line's calls, with what the plain house answers to each, and whether a call is of one who comes in its time."""

    def __init__(self, seed, with_stays, first_calls=()):
        self.writer = LineWriter(seed, with_stays)
        self.house = PlainHouse(self.writer.loss, self.writer.clearing, self.writer.rows)
        self.calls = [opening(self.writer.loss, self.writer.clearing, *self.writer.rows)]
        self.expected = [[0]]
        self.in_time = [False]
        for call in first_calls:
            self.add(call)
        for number in range(CALLS_OF_A_LINE):
            self.add(self.writer.call())
            if not with_stays and not self.house.all_can_be_kept():
                raise AssertionError("a promise is broken though nobody stayed longer")

    def add(self, call):
        self.in_time.append(comes_in_time(self.house, call))
        answer = self.house.answer(call)
        self.house.used()
        self.writer.hear(call, answer)
        self.calls.append(call)
        self.expected.append(answer)


def comes_in_time(house, call):
    if call[0] != 3 or call[1] > len(house.parties):
        return False
    party = house.parties[call[1] - 1]
    return party.stage == 0 and party.time_from <= house.now


class AgainstSearch(unittest.TestCase):
    def hold(self, seeds, with_stays, first_calls=()):
        """Compares whole lines; gives back how often each answer came to each call."""
        seen = {}
        for seed in seeds:
            line = Line(seed, with_stays, first_calls)
            given = told(*line.calls)
            for call, want, have, prompt in zip(line.calls, line.expected, given, line.in_time):
                self.assertEqual(have, want, (seed, call))
                # Of plan, quote and the like the second number is a count.
                kind = tuple(have[:2]) if call[0] in (8, 9, 10, 11, 12) else have[0]
                seen[call[0], kind] = seen.get((call[0], kind), 0) + 1
                if not with_stays:
                    self.assertNotEqual(have, [-11], (seed, call))
                    self.assertFalse(prompt and have[0] != 0, (seed, call))
        return seen

    def assert_seen(self, seen, needed):
        for pair in needed:
            self.assertGreater(seen.get(pair, 0), 15, pair)

    def test_lines_in_which_nobody_stays_longer(self):
        seen = self.hold(range(400), False)
        self.assert_seen(seen, [(1, 0), (1, -4), (1, -6), (1, -9), (2, 0), (2, -8), (3, 0), (3, -9), (4, 0), (4, -9)])
        self.assert_seen(seen, [(8, (0, count)) for count in range(6)])
        self.assert_seen(seen, [(9, (0, 1)), (9, (0, 0)), (9, (-4,)), (10, (0, 0)), (12, (0, 0)), (12, (0, 3)), (13, 0)])
        self.assert_seen(seen, [(14, 0), (14, -7), (15, 0)])

    def test_lines_with_stays(self):
        seen = self.hold(range(1000, 1400), True)
        self.assert_seen(seen, [(1, 0), (1, -9), (1, -11), (3, 0), (3, -9), (4, 0), (4, -9), (5, 0), (6, 0), (6, -8)])
        self.assert_seen(seen, [(8, (0, 0)), (8, (0, 3)), (8, (-11,)), (9, (0, 1)), (9, (0, 0))])
        self.assert_seen(seen, [(10, (0, 0)), (10, (0, 1)), (11, (0, 0)), (11, (0, 1))])

    def test_lines_at_the_last_minutes(self):
        # Each begins at 99988, so many of them come to 100000.
        seen = self.hold(range(3000, 3080), False, TO_THE_END)
        self.assert_seen(seen, [(7, -10), (9, (0, 1)), (9, (0, 0))])
        seen = self.hold(range(3100, 3180), True, TO_THE_END)
        self.assert_seen(seen, [(7, -10), (9, (0, 1)), (9, (0, 0))])

    def test_a_refused_call_leaves_no_trace_in_a_line(self):
        refused = 0
        for seed in range(2000, 2060):
            line = Line(seed, seed % 2 == 0)
            kept = [(call, answer) for call, answer in zip(line.calls, line.expected) if answer[0] == 0]
            refused += len(line.calls) - len(kept)
            self.assertEqual(told(*[call for call, answer in kept]), [answer for call, answer in kept])
        self.assertGreater(refused, 500)

    def test_a_call_that_only_looks_leaves_no_trace_in_a_line(self):
        looks = [PLAN, TABLES, STATE, free(1), free(4), [14, 1], [14, 2]]
        for seed in range(2100, 2160):
            line = Line(seed, seed % 2 == 0)
            counted_left = 60 - sum(call[0] in COUNTED for call in line.calls)
            calls = []
            places = []
            for call in line.calls[:49]:
                places.append(len(calls))
                calls += [call] + looks[:5]
                if counted_left > 1:
                    counted_left -= 2
                    calls += [quote(2, 5), TROUBLE]
            given = told(*calls)
            self.assertEqual([given[place] for place in places], line.expected[:49], seed)


class LateLines(unittest.TestCase):
    def test_who_is_told_off_when_many_stay_longer(self):
        counts = {}
        several = 0
        stays = 0
        for seed in range(5000, 5400):
            loss, clearing, rows, calls = late_line(seed)
            house = PlainHouse(loss, clearing, rows)
            given = told(opening(loss, clearing, *rows), *calls)[1:]
            for place, (call, have) in enumerate(zip(calls, given)):
                if call == TROUBLE:
                    lists = house.lists_in_trouble()
                    several += len(lists) > 1 and len(lists[0]) > 1
                    counts[have[1]] = counts.get(have[1], 0) + 1
                if call == TROUBLE and calls[place - 1][0] == 6 and given[place - 1][0] == 0:
                    stays += 1
                    self.assertEqual(given[place - 1], have[:2], (seed, call))
                self.assertEqual(have, house.answer(call), (seed, call))
            self.assertEqual(given[-2], [0, 0])
            self.assertEqual(given[-1][0], 0)
        self.assertGreater(several, 50)
        self.assertGreater(stays, 500)
        self.assertGreater(min(counts.get(count, 0) for count in range(4)), 50, counts)


class TheMinuteQuoted(unittest.TestCase):
    def test_it_can_be_booked_and_none_before_it(self):
        tried = 0
        for seed in range(4000, 4200):
            line = Line(seed, seed % 2 == 0)
            for place, (call, answer) in enumerate(zip(line.calls, line.expected)):
                if call[0] == 9 and answer[:2] == [0, 1] and tried < 300:
                    tried += 1
                    now = sum(part[1] for part, heard in zip(line.calls[:place], line.expected) if part[0] == 7 and heard[0] == 0)
                    earlier = [book(call[1], minute, call[2]) for minute in range(now, answer[2])]
                    given = told(*line.calls[:place], *earlier, book(call[1], answer[2], call[2]))
                    self.assertEqual(given[place:-1], [[-9]] * len(earlier), (seed, place))
                    self.assertEqual(given[-1][0], 0, (seed, place))
        self.assertEqual(tried, 300)


if __name__ == "__main__":
    unittest.main()
