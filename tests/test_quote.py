"""quote: the earliest minute from which a party could be promised."""

import unittest

from lines import (STATE, arrive, book, cancel, last, leave, opening, passing, quote, sight, stay, told, walkin)

ONE_TABLE = opening(0, 0, [4])
CLEARED = opening(0, 10, [4])
TO_99400 = [passing(1000)] * 99 + [passing(400)]


def filled(parties):
    """Calls after which there are so many parties, all of them gone."""
    return [call for number in range(1, parties + 1) for call in (walkin(1, 9), leave(number))]


class Quoting(unittest.TestCase):
    def test_now(self):
        self.assertEqual(last(ONE_TABLE, quote(4, 10)), [0, 1, 0])
        self.assertEqual(last(ONE_TABLE, passing(7), quote(1, 600)), [0, 1, 7])
        self.assertEqual(last(opening(0, 0, [4], [4]), walkin(4, 9), book(4, 20, 9), quote(4, 600)), [0, 1, 0])
        self.assertEqual(last(opening(1, 0, [4, 4], [1]), quote(7, 10)), [0, 1, 0])

    def test_when_a_use_is_over(self):
        self.assertEqual(last(CLEARED, walkin(4, 20), quote(4, 5)), [0, 1, 30])
        self.assertEqual(last(CLEARED, walkin(4, 20), passing(29), quote(4, 5)), [0, 1, 30])
        self.assertEqual(last(CLEARED, walkin(4, 20), passing(30), quote(4, 5)), [0, 1, 30])
        self.assertEqual(last(CLEARED, walkin(4, 20), passing(31), quote(4, 5)), [0, 1, 31])
        self.assertEqual(last(CLEARED, walkin(4, 20), passing(3), leave(1), quote(4, 5)), [0, 1, 13])
        self.assertEqual(last(CLEARED, walkin(4, 20), stay(1, 7), quote(4, 5)), [0, 1, 37])
        self.assertEqual(last(ONE_TABLE, walkin(4, 20), quote(4, 5)), [0, 1, 20])

    def test_when_the_second_of_two_uses_is_over(self):
        house = opening(0, 5, [4, 4])
        self.assertEqual(last(house, walkin(4, 20), walkin(4, 30), quote(4, 5)), [0, 1, 25])
        self.assertEqual(last(house, walkin(4, 20), walkin(4, 30), quote(8, 5)), [0, 1, 35])

    def test_ahead_of_a_promise(self):
        self.assertEqual(last(CLEARED, book(4, 30, 20), quote(4, 20)), [0, 1, 0])
        self.assertEqual(last(CLEARED, book(4, 30, 20), quote(4, 21)), [0, 1, 60])
        self.assertEqual(last(CLEARED, book(4, 30, 20), passing(5), quote(4, 15)), [0, 1, 5])
        self.assertEqual(last(CLEARED, book(4, 30, 20), passing(5), quote(4, 16)), [0, 1, 60])

    def test_between_a_use_and_a_promise(self):
        line = [CLEARED, walkin(4, 10), book(4, 50, 10)]
        self.assertEqual(last(*line, quote(4, 20)), [0, 1, 20])
        self.assertEqual(last(*line, quote(4, 21)), [0, 1, 70])

    def test_between_promises(self):
        line = [ONE_TABLE, book(4, 5, 5), book(4, 20, 5), book(4, 40, 5)]
        self.assertEqual(last(*line, quote(4, 5)), [0, 1, 0])
        self.assertEqual(last(*line, quote(4, 6)), [0, 1, 10])
        self.assertEqual(last(*line, quote(4, 10)), [0, 1, 10])
        self.assertEqual(last(*line, quote(4, 11)), [0, 1, 25])
        self.assertEqual(last(*line, quote(4, 15)), [0, 1, 25])
        self.assertEqual(last(*line, quote(4, 16)), [0, 1, 45])

    def test_a_promise_whose_time_has_begun(self):
        self.assertEqual(last(CLEARED, book(4, 2, 20), passing(5), quote(4, 1)), [0, 1, 32])
        self.assertEqual(last(CLEARED, book(4, 2, 20), passing(21), quote(4, 1)), [0, 1, 32])
        self.assertEqual(last(CLEARED, book(4, 2, 20), passing(22), quote(4, 1)), [0, 1, 22])

    def test_called_off_and_arrived_ones(self):
        self.assertEqual(last(CLEARED, book(4, 0, 20), cancel(1), quote(4, 5)), [0, 1, 0])
        self.assertEqual(last(CLEARED, book(4, 50, 20), arrive(1), quote(4, 5)), [0, 1, 80])

    def test_promises_are_laid_out_anew(self):
        # The two are told the first row's tables, but both can be in other ones, so that the six get that row.
        house = opening(0, 0, [3, 3], [3], [3])
        self.assertEqual(last(house, book(3, 0, 20), book(3, 0, 30), quote(6, 10)), [0, 1, 0])
        self.assertEqual(last(house, book(3, 0, 20), book(3, 0, 30), book(3, 0, 40), quote(6, 10)), [0, 1, 20])

    def test_what_is_quoted_can_be_booked_and_nothing_earlier(self):
        line = [opening(1, 5, [4, 4], [6]), walkin(6, 20), book(5, 10, 30), walkin(4, 3), book(2, 60, 30)]
        earlier = [book(6, minute, 20) for minute in range(25)]
        given = told(*line, quote(6, 20), *earlier, book(6, 25, 20))
        self.assertEqual(given[5:], [[0, 1, 25]] + [[-9]] * 25 + [[0, 5]])


class TheLastMinute(unittest.TestCase):
    def test_now_is_the_last_minute(self):
        self.assertEqual(last(ONE_TABLE, *[passing(1000)] * 100, quote(4, 600)), [0, 1, 100000])
        self.assertEqual(last(ONE_TABLE, *[passing(1000)] * 100, walkin(4, 1), quote(4, 600)), [0, 0])

    def test_a_use_up_to_the_last_minute(self):
        self.assertEqual(last(CLEARED, *TO_99400, walkin(4, 589), quote(4, 600)), [0, 1, 99999])
        self.assertEqual(last(CLEARED, *TO_99400, walkin(4, 590), quote(4, 600)), [0, 1, 100000])
        self.assertEqual(last(CLEARED, *TO_99400, walkin(4, 591), quote(4, 600)), [0, 0])
        self.assertEqual(told(CLEARED, *TO_99400, walkin(4, 590), quote(4, 600), book(4, 100000, 600))[102:],
                         [[0, 1, 100000], [0, 2]])

    def test_a_promise_up_to_the_last_minute(self):
        self.assertEqual(last(CLEARED, *TO_99400, book(4, 99400, 590), quote(4, 1)), [0, 1, 100000])
        self.assertEqual(last(CLEARED, *TO_99400, book(4, 99401, 590), quote(4, 1)), [0, 0])
        self.assertEqual(last(CLEARED, *TO_99400, book(4, 99411, 590), quote(4, 1)), [0, 1, 99400])

    def test_a_promise_behind_the_last_minute(self):
        self.assertEqual(last(ONE_TABLE, book(4, 100000, 600), quote(4, 600)), [0, 1, 0])
        self.assertEqual(last(ONE_TABLE, *[passing(1000)] * 100, book(4, 100000, 600), quote(4, 1)), [0, 0])


class NoMinute(unittest.TestCase):
    def test_too_many_for_the_room(self):
        self.assertEqual(last(ONE_TABLE, quote(5, 1)), [0, 0])
        self.assertEqual(last(opening(0, 0, [4], [4]), quote(5, 1)), [0, 0])
        self.assertEqual(last(opening(1, 0, [10] * 8), quote(74, 1)), [0, 0])
        self.assertEqual(last(opening(1, 0, [10] * 8), quote(73, 1)), [0, 1, 0])
        self.assertEqual(last(opening(0, 0, [10] * 8), quote(80, 600)), [0, 1, 0])

    def test_while_not_all_promises_can_be_kept(self):
        late = [opening(0, 0, [4], [2]), walkin(4, 10), book(4, 10, 10), stay(1, 5)]
        self.assertEqual(told(*late, quote(2, 1))[3:], [[0, 1], [0, 0]])
        self.assertEqual(last(*late, passing(14), quote(2, 1)), [0, 0])
        self.assertEqual(last(*late, passing(15), quote(2, 1)), [0, 1, 15])
        self.assertEqual(last(*late, cancel(2), quote(2, 1)), [0, 1, 0])
        self.assertEqual(last(*late, cancel(2), quote(4, 1)), [0, 1, 15])


class RefusedQuotes(unittest.TestCase):
    def test_sixty_parties(self):
        self.assertEqual(last(ONE_TABLE, *filled(59), quote(4, 9)), [0, 1, 0])
        self.assertEqual(last(ONE_TABLE, *filled(60), quote(4, 9)), [-4])

    def test_five_promised(self):
        house = opening(0, 0, [2] * 6)
        self.assertEqual(last(house, *[book(2, 0, 9)] * 4, quote(2, 9)), [0, 1, 0])
        self.assertEqual(last(house, *[book(2, 0, 9)] * 5, quote(2, 9)), [-4])
        self.assertEqual(last(house, *[book(2, 0, 9)] * 5, quote(80, 9)), [-4])
        self.assertEqual(last(house, *[book(2, 0, 9)] * 5, arrive(3), quote(2, 9)), [0, 1, 0])

    def test_ahead_of_the_promises_that_cannot_be_kept(self):
        late = [opening(0, 0, [2] * 5), walkin(10, 10), *[book(2, 10, 10)] * 5, stay(1, 5)]
        self.assertEqual(told(*late, quote(2, 9), cancel(2), quote(2, 9))[7:], [[0, 5], [-4], [0], [0, 0]])
        self.assertEqual(last(ONE_TABLE, *filled(58), walkin(4, 10), book(4, 10, 10), stay(59, 5), quote(4, 9)), [-4])


class NothingChanges(unittest.TestCase):
    def test_when_quoted(self):
        line = [CLEARED, walkin(4, 20), book(4, 50, 10)]
        given = told(*line, *sight(2), quote(4, 5), quote(4, 60), quote(5, 5), *sight(3))
        self.assertEqual(given[8:11], [[0, 1, 30], [0, 1, 70], [0, 0]])
        self.assertEqual(given[11:], given[3:8] + [[-7]])

    def test_when_refused(self):
        line = [opening(0, 0, [2] * 6), *[book(2, 5, 9)] * 5]
        given = told(*line, *sight(6), quote(2, 9), quote(81, 9), *sight(6))
        self.assertEqual(given[15:17], [[-4], [-1]])
        self.assertEqual(given[17:], given[6:15])
        self.assertEqual(told(quote(2, 9), ONE_TABLE, STATE), [[-2], [0], [0, 0, 0, 0, 0, 1, 0, 0, 1, 4, 0, 0]])


if __name__ == "__main__":
    unittest.main()
