"""plan: the seating told."""

import unittest

from lines import PLAN, TELLOFF, arrive, book, cancel, last, leave, opening, passing, sight, stay, told, walkin

TWO_TABLES = opening(0, 0, [2, 2])
LATE = [opening(0, 0, [4, 4]), walkin(4, 10), walkin(4, 10), book(4, 10, 10), book(4, 30, 10), stay(1, 5), stay(2, 5)]


class Planning(unittest.TestCase):
    def test_no_promised_party(self):
        self.assertEqual(last(TWO_TABLES, PLAN), [0, 0])
        gone = [walkin(1, 9), walkin(1, 9), leave(2), book(1, 9, 9), cancel(3), book(1, 0, 3), passing(4)]
        self.assertEqual(last(TWO_TABLES, *gone, PLAN), [0, 0])
        self.assertEqual(last(TWO_TABLES, book(1, 50, 9), arrive(1), PLAN), [0, 0])

    def test_one_promised_party(self):
        self.assertEqual(last(opening(1, 5, [4, 4], [2, 6]), book(7, 0, 30), PLAN), [0, 1, 1, 1, 1, 2])
        self.assertEqual(last(opening(1, 5, [1], [], [6]), walkin(1, 9), book(6, 0, 30), PLAN), [0, 1, 2, 3, 1, 1])

    def test_in_the_order_of_their_times(self):
        line = [TWO_TABLES, book(2, 20, 10), book(2, 12, 10), book(2, 5, 10)]
        self.assertEqual(last(*line, PLAN), [0, 3, 3, 1, 1, 1, 2, 1, 2, 2, 1, 1, 1, 1])

    def test_of_one_time_by_number(self):
        self.assertEqual(last(opening(0, 0, [2, 2], [2]), *[book(2, 5, 10)] * 3, PLAN), [0, 3, 1, 1, 1, 1, 2, 1, 2, 2, 3, 2, 1, 1])
        # How long they want it says nothing of their order.
        self.assertEqual(last(TWO_TABLES, book(2, 5, 600), book(2, 5, 1), PLAN), [0, 2, 1, 1, 1, 1, 2, 1, 2, 2])
        self.assertEqual(last(TWO_TABLES, book(2, 5, 1), book(2, 5, 600), PLAN), [0, 2, 1, 1, 1, 1, 2, 1, 2, 2])

    def test_the_first_in_order_not_the_one_that_seats_fewest(self):
        self.assertEqual(last(opening(0, 0, [6, 4, 2]), book(2, 5, 10), PLAN), [0, 1, 1, 1, 1, 1])
        self.assertEqual(last(opening(0, 0, [3, 5, 4]), book(4, 5, 10), PLAN), [0, 1, 1, 1, 2, 2])
        # By their first table ahead of their last one, and by row ahead of both.
        self.assertEqual(last(opening(0, 0, [1, 2, 2, 1]), book(3, 5, 10), PLAN), [0, 1, 1, 1, 1, 2])
        self.assertEqual(last(opening(0, 0, [1, 1, 3]), book(3, 5, 10), PLAN), [0, 1, 1, 1, 3, 3])
        self.assertEqual(last(opening(0, 0, [1, 2], [3]), book(3, 5, 10), PLAN), [0, 1, 1, 1, 1, 2])

    def test_tight_ones_alone(self):
        # Tables 1 and 2 come ahead of table 2, but would do without table 1.
        self.assertEqual(last(opening(0, 0, [1, 4]), book(4, 5, 10), PLAN), [0, 1, 1, 1, 2, 2])
        # With this loss the three are tight, and the first table comes ahead of them.
        self.assertEqual(last(opening(3, 0, [10, 1, 4]), book(9, 5, 10), PLAN), [0, 1, 1, 1, 1, 1])
        self.assertEqual(last(opening(3, 0, [4, 1, 10]), book(9, 5, 10), PLAN), [0, 1, 1, 1, 1, 3])

    def test_with_which_the_rest_can_be_given_blocks_too(self):
        self.assertEqual(last(opening(0, 0, [6, 2]), book(2, 5, 10), book(6, 5, 10), PLAN), [0, 2, 1, 1, 2, 2, 2, 1, 1, 1])
        # Of the two that come first one must go to the right, so that the four find two neighbours.
        line = [opening(0, 0, [2, 2, 2, 2]), book(2, 5, 10), book(4, 6, 10), book(2, 5, 10)]
        self.assertEqual(last(*line, PLAN), [0, 3, 1, 1, 1, 1, 3, 1, 2, 2, 2, 1, 3, 4])

    def test_a_later_one_binds_an_earlier_one(self):
        # The six at 10 need the whole row, so the long stay of the first must be in the second row.
        line = [opening(0, 0, [3, 3], [3]), book(3, 0, 30), book(6, 10, 10), PLAN]
        self.assertEqual(last(*line), [0, 2, 1, 2, 1, 1, 2, 1, 1, 2])
        # If it is over by then, it is not bound.
        line = [opening(0, 0, [3, 3], [3]), book(3, 0, 10), book(6, 10, 10), PLAN]
        self.assertEqual(last(*line), [0, 2, 1, 1, 1, 1, 2, 1, 1, 2])
        line = [opening(0, 1, [3, 3], [3]), book(3, 0, 10), book(6, 10, 10), PLAN]
        self.assertEqual(last(*line), [0, 2, 1, 2, 1, 1, 2, 1, 1, 2])

    def test_beside_what_is_used(self):
        line = [opening(0, 5, [2, 2]), walkin(2, 10), book(2, 15, 10), book(2, 14, 10), PLAN]
        self.assertEqual(last(*line), [0, 2, 3, 1, 2, 2, 2, 1, 1, 1])
        # The first table is used up to 9: the four who come at 8 can't have it.
        line = [opening(0, 0, [2, 2, 2]), walkin(2, 9), book(4, 8, 10), book(2, 9, 10), PLAN]
        self.assertEqual(last(*line), [0, 2, 2, 1, 2, 3, 3, 1, 1, 1])
        line = [opening(0, 5, [2, 2]), walkin(2, 10), book(2, 10, 10), leave(1), PLAN]
        self.assertEqual(last(*line), [0, 1, 2, 1, 1, 1])

    def test_one_whose_time_has_begun(self):
        # Promised from 5 on, it wants a table from now on: at 6 the second, at 7, when the first is free, that one.
        line = [opening(0, 0, [2], [2]), walkin(2, 7), walkin(2, 5), book(2, 5, 10), PLAN, passing(6), PLAN, passing(1), PLAN]
        given = told(*line)
        self.assertEqual([given[4], given[6], given[8]], [[0, 1, 3, 2, 1, 1], [0, 1, 3, 2, 1, 1], [0, 1, 3, 1, 1, 1]])

    def test_the_order_of_those_whose_time_has_begun(self):
        self.assertEqual(last(TWO_TABLES, book(2, 3, 20), book(2, 1, 20), passing(5), PLAN), [0, 2, 2, 1, 1, 1, 1, 1, 2, 2])
        self.assertEqual(last(TWO_TABLES, book(2, 5, 20), book(2, 1, 20), passing(5), PLAN), [0, 2, 2, 1, 1, 1, 1, 1, 2, 2])

    def test_five_promised_on_eight_tables(self):
        line = [opening(1, 10, [2, 2, 2], [4, 4, 4], [1, 6]), book(6, 60, 90), book(3, 30, 90), book(7, 60, 60),
                book(1, 60, 90), book(4, 45, 600), PLAN]
        # The six can't have the tables of four, which the seven need.
        self.assertEqual(last(*line), [0, 5, 2, 1, 1, 2, 5, 2, 1, 1, 1, 3, 2, 2, 3, 2, 2, 3, 4, 1, 3, 3])


class NoPlan(unittest.TestCase):
    def test_while_not_all_promises_can_be_kept(self):
        self.assertEqual(told(*LATE, PLAN)[5:], [[0, 0], [0, 1], [-11]])
        self.assertEqual(last(*LATE, cancel(3), PLAN), [0, 1, 4, 1, 1, 1])
        self.assertEqual(last(*LATE, TELLOFF, PLAN), [0, 1, 4, 1, 1, 1])
        self.assertEqual(last(*LATE, leave(2), PLAN), [0, 2, 3, 1, 2, 2, 4, 1, 1, 1])
        self.assertEqual(told(*LATE, passing(14), PLAN, passing(1), PLAN)[8:], [[-11], [0, 15], [0, 2, 3, 1, 1, 1, 4, 1, 1, 1]])


class NothingChanges(unittest.TestCase):
    def test_when_told(self):
        line = [opening(0, 5, [2, 2, 2]), book(2, 10, 10), book(4, 10, 10), passing(3), walkin(2, 2)]
        given = told(*line, *sight(3), PLAN, PLAN, *sight(3))
        self.assertEqual(given[5:11], given[13:])
        self.assertEqual(given[11], given[12])

    def test_nobody_is_tied_to_the_block_told(self):
        given = told(opening(0, 0, [2, 2, 2]), book(2, 5, 10), PLAN, walkin(2, 9), PLAN, arrive(1))
        self.assertEqual(given[2:], [[0, 1, 1, 1, 1, 1], [0, 2, 1, 1, 1], [0, 1, 1, 1, 2, 2], [0, 1, 2, 2]])
        # When it comes, it is seated where fewest find seats, whatever was told.
        self.assertEqual(told(opening(0, 0, [6, 2]), book(2, 5, 10), PLAN, arrive(1))[2:], [[0, 1, 1, 1, 1, 1], [0, 1, 2, 2]])

    def test_when_refused(self):
        given = told(*LATE, *sight(4), PLAN, *sight(4), passing(15), PLAN)
        self.assertEqual(given[14], [-11])
        self.assertEqual(given[7:14], given[15:22])
        self.assertEqual(given[23], [0, 2, 3, 1, 1, 1, 4, 1, 1, 1])


if __name__ == "__main__":
    unittest.main()
