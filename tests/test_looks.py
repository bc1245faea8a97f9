"""free, tables, party, state: how things stand at this minute."""

import unittest

from lines import (STATE, TABLES, TELLOFF, arrive, book, cancel, free, last, leave, opening, party, passing, sight, stay,
                   told, walkin)

ONE_TABLE = opening(0, 0, [4])
TWO_ROWS = opening(0, 10, [4], [4])
LATE = [ONE_TABLE, walkin(4, 10), book(4, 10, 20), stay(1, 5)]


class Free(unittest.TestCase):
    def test_the_blocks_in_order(self):
        house = opening(0, 0, [4, 2, 4], [], [3, 5])
        self.assertEqual(last(house, free(1)), [0, 5, 1, 1, 1, 1, 2, 2, 1, 3, 3, 3, 1, 1, 3, 2, 2])
        self.assertEqual(last(house, free(4)), [0, 3, 1, 1, 1, 1, 3, 3, 3, 2, 2])
        self.assertEqual(last(house, free(5)), [0, 3, 1, 1, 2, 1, 2, 3, 3, 2, 2])
        self.assertEqual(last(house, free(8)), [0, 2, 1, 1, 3, 3, 1, 2])
        self.assertEqual(last(house, free(10)), [0, 1, 1, 1, 3])
        self.assertEqual(last(opening(1, 0, [2, 2, 2]), free(3)), [0, 2, 1, 1, 2, 1, 2, 3])

    def test_none(self):
        self.assertEqual(last(opening(0, 0, [4, 2, 4], [], [3, 5]), free(11)), [0, 0])
        self.assertEqual(last(ONE_TABLE, walkin(1, 9), free(1)), [0, 0])

    def test_the_greatest_sizes(self):
        self.assertEqual(last(opening(0, 0, [10] * 8), free(80)), [0, 1, 1, 1, 8])
        self.assertEqual(last(opening(1, 0, [10] * 8), free(80)), [0, 0])

    def test_tight_ones_alone(self):
        self.assertEqual(last(opening(0, 0, [1, 4]), free(4)), [0, 1, 1, 2, 2])
        self.assertEqual(last(opening(3, 0, [10, 1, 4]), free(9)), [0, 2, 1, 1, 1, 1, 1, 3])
        self.assertEqual(last(opening(3, 0, [1, 1, 1]), free(1)), [0, 3, 1, 1, 1, 1, 2, 2, 1, 3, 3])

    def test_a_block_with_one_used_table_is_not_free(self):
        line = [opening(0, 0, [2, 1, 2, 2]), walkin(1, 9)]
        self.assertEqual(told(*line, free(2), free(3), free(4))[1:],
                         [[0, 1, 1, 2, 2], [0, 3, 1, 1, 1, 1, 3, 3, 1, 4, 4], [0, 1, 1, 3, 4], [0, 1, 1, 3, 4]])

    def test_when_the_clearing_time_is_over(self):
        line = [TWO_ROWS, walkin(4, 20), free(4), passing(20), free(4), passing(9), free(4), passing(1), free(4)]
        self.assertEqual(told(*line)[2:], [[0, 1, 2, 1, 1], [0, 20], [0, 1, 2, 1, 1], [0, 29], [0, 1, 2, 1, 1], [0, 30],
                                           [0, 2, 1, 1, 1, 2, 1, 1]])
        line = [ONE_TABLE, walkin(4, 20), passing(19), free(4), passing(1), free(4)]
        self.assertEqual(told(*line)[2:], [[0, 19], [0, 0], [0, 20], [0, 1, 1, 1, 1]])

    def test_a_party_that_left(self):
        line = [TWO_ROWS, walkin(4, 20), passing(3), leave(1), free(4), passing(9), free(4), passing(1), free(4)]
        self.assertEqual(told(*line)[4:], [[0, 1, 2, 1, 1], [0, 12], [0, 1, 2, 1, 1], [0, 13], [0, 2, 1, 1, 1, 2, 1, 1]])
        self.assertEqual(last(ONE_TABLE, walkin(4, 20), leave(1), free(4)), [0, 1, 1, 1, 1])

    def test_promises_use_nothing(self):
        # Nobody else could be seated at it, but it is free.
        line = [ONE_TABLE, book(4, 0, 20), free(4), passing(5), free(4), walkin(4, 1), arrive(1), free(4)]
        self.assertEqual(told(*line)[2:], [[0, 1, 1, 1, 1], [0, 5], [0, 1, 1, 1, 1], [-9], [0, 1, 1, 1], [0, 0]])

    def test_nothing_changes(self):
        line = [TWO_ROWS, walkin(4, 20), book(4, 5, 9), passing(1)]
        given = told(*line, *sight(2), free(4), free(81), *sight(2))
        self.assertEqual(given[9:11], [[0, 1, 2, 1, 1], [-1]])
        self.assertEqual(given[4:9], given[11:])


class Tables(unittest.TestCase):
    def test_nobody(self):
        self.assertEqual(last(ONE_TABLE, TABLES), [0, 0, 0])
        self.assertEqual(last(opening(0, 0, [4, 2], [], [1]), TABLES), [0, 0, 0, 0, 0, 0, 0])
        self.assertEqual(last(opening(0, 0, [1] * 8), TABLES), [0] + [0, 0] * 8)
        self.assertEqual(last(ONE_TABLE, book(4, 0, 9), TABLES), [0, 0, 0])

    def test_row_by_row(self):
        line = [opening(1, 5, [4, 4], [2, 9], [1]), walkin(7, 30), walkin(9, 600), passing(2), walkin(1, 1)]
        self.assertEqual(last(*line, TABLES), [0, 1, 35, 1, 35, 0, 0, 2, 605, 3, 8])
        line = [opening(0, 0, [3, 1, 3], [], [2, 2]), walkin(2, 9), walkin(2, 8), walkin(4, 7), TABLES]
        self.assertEqual(last(*line), [0, 3, 7, 3, 7, 0, 0, 1, 9, 2, 8])

    def test_when_the_clearing_time_is_over(self):
        line = [TWO_ROWS, walkin(4, 20), TABLES, passing(20), TABLES, passing(9), TABLES, passing(1), TABLES]
        self.assertEqual(told(*line)[2:], [[0, 1, 30, 0, 0], [0, 20], [0, 1, 30, 0, 0], [0, 29], [0, 1, 30, 0, 0], [0, 30],
                                           [0, 0, 0, 0, 0]])
        line = [ONE_TABLE, walkin(4, 20), passing(19), TABLES, passing(1), TABLES]
        self.assertEqual(told(*line)[2:], [[0, 19], [0, 1, 20], [0, 20], [0, 0, 0]])

    def test_a_party_that_left_and_whose_table_is_still_cleared(self):
        line = [TWO_ROWS, walkin(4, 20), passing(3), leave(1), TABLES, passing(9), TABLES, passing(1), TABLES]
        self.assertEqual(told(*line)[4:], [[0, 1, 13, 0, 0], [0, 12], [0, 1, 13, 0, 0], [0, 13], [0, 0, 0, 0, 0]])
        self.assertEqual(last(TWO_ROWS, walkin(4, 20), leave(1), TABLES), [0, 1, 10, 0, 0])
        self.assertEqual(last(ONE_TABLE, walkin(4, 20), leave(1), TABLES), [0, 0, 0])

    def test_one_behind_another(self):
        line = [ONE_TABLE, walkin(4, 20), passing(20), walkin(3, 5), TABLES, leave(2), walkin(2, 9), TABLES]
        self.assertEqual(told(*line)[3:], [[0, 2, 1, 1, 1], [0, 2, 25], [0], [0, 3, 1, 1, 1], [0, 3, 29]])
        line = [opening(0, 10, [4]), walkin(4, 20), passing(30), walkin(3, 5), TABLES]
        self.assertEqual(last(*line), [0, 2, 45])

    def test_whoever_stays_longer_or_came_early(self):
        self.assertEqual(told(TWO_ROWS, walkin(4, 20), stay(1, 7), TABLES)[2:], [[0, 0], [0, 1, 37, 0, 0]])
        self.assertEqual(last(TWO_ROWS, book(4, 50, 20), arrive(1), TABLES), [0, 1, 80, 0, 0])

    def test_behind_the_last_minute(self):
        line = [opening(0, 60, [4]), *[passing(1000)] * 100, walkin(4, 600), TABLES]
        self.assertEqual(last(*line), [0, 1, 100660])

    def test_nothing_changes(self):
        given = told(*LATE, *sight(2), TABLES, TABLES, *sight(2))
        self.assertEqual(given[9:11], [[0, 1, 15]] * 2)
        self.assertEqual(given[4:9], given[11:])


class Party(unittest.TestCase):
    def test_promised(self):
        self.assertEqual(last(ONE_TABLE, book(3, 5, 10), party(1)), [0, 3, 5, 15, 0, 0, 0, 0])
        # Its time from stays as it was told when that has begun.
        self.assertEqual(last(ONE_TABLE, book(3, 5, 10), passing(14), party(1)), [0, 3, 5, 15, 0, 0, 0, 0])

    def test_at_a_table(self):
        line = [opening(0, 10, [4], [1, 4]), passing(7), walkin(5, 20), party(1)]
        self.assertEqual(last(*line), [0, 5, 7, 27, 1, 2, 1, 2])
        self.assertEqual(told(*line, stay(1, 8), party(1))[4:], [[0, 0], [0, 5, 7, 35, 1, 2, 1, 2]])

    def test_arrived(self):
        early = [ONE_TABLE, book(3, 50, 10), passing(4), arrive(1), party(1)]
        self.assertEqual(last(*early), [0, 3, 4, 60, 1, 1, 1, 1])
        late = [ONE_TABLE, book(3, 5, 10), passing(14), arrive(1), party(1)]
        self.assertEqual(last(*late), [0, 3, 14, 15, 1, 1, 1, 1])

    def test_left(self):
        self.assertEqual(last(ONE_TABLE, walkin(3, 20), passing(4), leave(1), party(1)), [0, 3, 0, 4, 2, 1, 1, 1])
        self.assertEqual(last(ONE_TABLE, passing(4), walkin(3, 20), leave(1), party(1)), [0, 3, 4, 4, 2, 1, 1, 1])
        # When time goes on it leaves at its own time, and still tells its block when that is another's.
        self.assertEqual(last(ONE_TABLE, walkin(3, 20), passing(20), party(1)), [0, 3, 0, 20, 2, 1, 1, 1])
        self.assertEqual(last(ONE_TABLE, walkin(3, 20), passing(90), walkin(4, 9), party(1)), [0, 3, 0, 20, 2, 1, 1, 1])
        self.assertEqual(last(ONE_TABLE, walkin(3, 20), passing(19), party(1)), [0, 3, 0, 20, 1, 1, 1, 1])

    def test_called_off(self):
        self.assertEqual(last(ONE_TABLE, book(3, 5, 10), cancel(1), party(1)), [0, 3, 5, 15, 3, 0, 0, 0])

    def test_never_came(self):
        self.assertEqual(last(ONE_TABLE, book(3, 5, 10), passing(15), party(1)), [0, 3, 5, 15, 4, 0, 0, 0])
        self.assertEqual(last(ONE_TABLE, book(3, 5, 10), passing(99), party(1)), [0, 3, 5, 15, 4, 0, 0, 0])

    def test_told_off(self):
        self.assertEqual(last(*LATE, TELLOFF, party(2)), [0, 4, 10, 30, 5, 0, 0, 0])

    def test_no_such_party(self):
        self.assertEqual(told(ONE_TABLE, party(1), book(4, 5, 9), party(2), party(60), party(1))[1:],
                         [[-7], [0, 1], [-7], [-7], [0, 4, 5, 14, 0, 0, 0, 0]])
        self.assertEqual(last(ONE_TABLE, book(5, 5, 9), party(1)), [-7])

    def test_the_sixtieth(self):
        gone = [call for number in range(1, 61) for call in (walkin(1, 9), leave(number))]
        self.assertEqual(told(ONE_TABLE, *gone[:-2], party(60), *gone[-2:], party(60))[119:],
                         [[-7], [0, 60, 1, 1, 1], [0], [0, 1, 0, 0, 2, 1, 1, 1]])

    def test_nothing_changes(self):
        given = told(*LATE, *sight(2), party(1), party(3), party(61), party(0), *sight(3))
        self.assertEqual(given[9:13], [[0, 4, 0, 15, 1, 1, 1, 1], [-7], [-1], [-1]])
        self.assertEqual(given[13:], given[4:9] + [[-7]])


class State(unittest.TestCase):
    def test_a_new_house(self):
        self.assertEqual(last(opening(3, 60, [10]), STATE), [0, 0, 0, 0, 0, 1, 3, 60, 1, 10, 0, 0])
        self.assertEqual(last(opening(0, 0, [1] * 8), STATE), [0, 0, 0, 0, 0, 1, 0, 0, 8] + [1] * 8 + [0, 0])

    def test_empty_rows(self):
        self.assertEqual(last(opening(1, 2, [4, 3], [], [5]), STATE), [0, 0, 0, 0, 0, 1, 1, 2, 2, 4, 3, 0, 1, 5])
        self.assertEqual(last(opening(1, 2, [4, 3], [5], []), STATE), [0, 0, 0, 0, 0, 1, 1, 2, 2, 4, 3, 1, 5, 0])
        self.assertEqual(last(opening(1, 2, [4], [3], [6, 5]), STATE), [0, 0, 0, 0, 0, 1, 1, 2, 1, 4, 1, 3, 2, 6, 5])

    def test_the_counts(self):
        line = [opening(0, 0, [1] * 8), walkin(1, 5), walkin(1, 9), walkin(1, 9), leave(3), book(1, 9, 9), book(1, 9, 9),
                cancel(4), book(1, 0, 3), book(1, 3, 9), arrive(7), passing(6)]
        # By then 1 and 3 left, 2 and 7 are at a table, 4 is called off, 5 promised, 6 never came.
        self.assertEqual(last(*line, STATE)[:8], [0, 6, 7, 1, 2, 1, 0, 0])
        self.assertEqual(last(*line[:-1], STATE)[:8], [0, 0, 7, 2, 3, 1, 0, 0])

    def test_whether_all_promises_can_be_kept(self):
        rows = [0, 0, 1, 4, 0, 0]
        self.assertEqual(last(*LATE[:3], STATE), [0, 0, 2, 1, 1, 1] + rows)
        self.assertEqual(last(*LATE, STATE), [0, 0, 2, 1, 1, 0] + rows)
        self.assertEqual(last(*LATE, passing(14), STATE), [0, 14, 2, 1, 1, 0] + rows)
        self.assertEqual(last(*LATE, passing(15), STATE), [0, 15, 2, 1, 0, 1] + rows)
        self.assertEqual(last(*LATE, cancel(2), STATE), [0, 0, 2, 0, 1, 1] + rows)

    def test_a_refused_opening_changes_nothing(self):
        self.assertEqual(told(opening(1, 2, [3]), opening(3, 60, [9, 9], [9]), STATE),
                         [[0], [-3], [0, 0, 0, 0, 0, 1, 1, 2, 1, 3, 0, 0]])
        self.assertEqual(told(opening(3, 60, [], [9]), STATE, opening(1, 2, [3]), STATE),
                         [[-5], [-2], [0], [0, 0, 0, 0, 0, 1, 1, 2, 1, 3, 0, 0]])

    def test_nothing_changes(self):
        given = told(*LATE, *sight(2), STATE, STATE, *sight(2))
        self.assertEqual(given[9:11], [[0, 0, 2, 1, 1, 0, 0, 0, 1, 4, 0, 0]] * 2)
        self.assertEqual(given[4:9], given[11:])


if __name__ == "__main__":
    unittest.main()
