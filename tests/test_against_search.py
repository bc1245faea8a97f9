"""The program's answers, held against a plain search through all seatings, over many lines of calls."""

import unittest

from lines import opening, told
from plain_search import PlainHouse
from random_lines import LineWriter

CALLS_OF_A_LINE = 60


def written_line(seed, with_stays):
    """The calls of a line, what the plain house answers, and for each call whether its party came in its time."""
    writer = LineWriter(seed, with_stays)
    house = PlainHouse(writer.loss, writer.clearing, writer.rows)
    calls = [opening(writer.loss, writer.clearing, *writer.rows)]
    answers = [[0]]
    in_time = [False]
    for number in range(CALLS_OF_A_LINE):
        call = writer.call()
        in_time.append(comes_in_time(house, call))
        answer = house.answer(call)
        house.used()
        writer.hear(call, answer)
        calls.append(call)
        answers.append(answer)
        if not with_stays and not house.all_can_be_kept():
            raise AssertionError("a promise is broken though nobody stayed longer")
    return calls, answers, in_time


def comes_in_time(house, call):
    if call[0] != 3 or call[1] > len(house.parties):
        return False
    party = house.parties[call[1] - 1]
    return party.stage == 0 and party.time_from <= house.now


class AgainstSearch(unittest.TestCase):
    def hold(self, seeds, with_stays):
        """Compares whole lines; gives back how often each answer came to each call."""
        seen = {}
        for seed in seeds:
            calls, expected, in_time = written_line(seed, with_stays)
            given = told(*calls)
            for call, want, have, prompt in zip(calls, expected, given, in_time):
                self.assertEqual(have, want, (seed, call))
                seen[call[0], have[0]] = seen.get((call[0], have[0]), 0) + 1
                if not with_stays:
                    self.assertNotEqual(have, [-11], (seed, call))
                    self.assertFalse(prompt and have[0] != 0, (seed, call))
        return seen

    def assert_seen(self, seen, needed):
        for pair in needed:
            self.assertGreater(seen.get(pair, 0), 20, pair)

    def test_lines_in_which_nobody_stays_longer(self):
        seen = self.hold(range(300), False)
        self.assert_seen(seen, [(1, 0), (1, -4), (1, -6), (1, -9), (2, 0), (2, -8), (3, 0), (3, -9), (4, 0), (4, -9)])

    def test_lines_with_stays(self):
        seen = self.hold(range(1000, 1300), True)
        self.assert_seen(seen, [(1, 0), (1, -9), (1, -11), (3, 0), (3, -9), (4, 0), (4, -9), (5, 0), (6, 0), (6, -8)])

    def test_a_refused_call_leaves_no_trace_in_a_line(self):
        refused = 0
        for seed in range(2000, 2060):
            calls, expected, in_time = written_line(seed, seed % 2 == 0)
            kept = [(call, answer) for call, answer in zip(calls, expected) if answer[0] == 0]
            refused += len(calls) - len(kept)
            self.assertEqual(told(*[call for call, answer in kept]), [answer for call, answer in kept])
        self.assertGreater(refused, 500)


if __name__ == "__main__":
    unittest.main()
