"""open; the blocks, what they seat, which are tight, and which one is taken."""

import unittest

from lines import arrive, book, last, leave, opening, passing, told, walkin
from pushedtables.room import blocks_of, seats_together, tight_blocks


def blocks_told(blocks):
    return [(block.row, block.first, block.last) for block in blocks]


class Opening(unittest.TestCase):
    def test_answers_nothing_more(self):
        self.assertEqual(told(opening(0, 0, [4])), [[0]])
        self.assertEqual(told(opening(3, 60, [1, 10], [2, 3], [4, 4, 4, 4])), [[0]])

    def test_open_already(self):
        self.assertEqual(told(opening(0, 0, [4]), opening(0, 0, [4])), [[0], [-3]])

    def test_first_row_empty(self):
        self.assertEqual(told(opening(0, 0, []), opening(0, 0, [4])), [[-5], [0]])
        self.assertEqual(told(opening(0, 0, [], [4], [4])), [[-5]])

    def test_more_than_eight_tables(self):
        self.assertEqual(told(opening(0, 0, [1] * 8, [1])), [[-5]])
        self.assertEqual(told(opening(0, 0, [1] * 3, [1] * 3, [1] * 3)), [[-5]])
        self.assertEqual(told(opening(0, 0, [1] * 3, [1] * 3, [1] * 2)), [[0]])

    def test_open_already_is_told_ahead_of_the_rows(self):
        self.assertEqual(last(opening(0, 0, [4]), opening(0, 0, [])), [-3])
        self.assertEqual(last(opening(0, 0, [4]), opening(0, 0, [1] * 8, [1])), [-3])

    def test_refused_changes_nothing(self):
        self.assertEqual(told(opening(0, 0, [], [4]), walkin(1, 1)), [[-5], [-2]])
        given = told(opening(2, 5, [4, 4]), opening(0, 0, [9]), walkin(7, 1), walkin(6, 1), passing(5), walkin(1, 1))
        self.assertEqual(given, [[0], [-3], [-9], [0, 1, 1, 1, 2], [0, 5], [-9]])


class Blocks(unittest.TestCase):
    def test_in_order(self):
        blocks = blocks_of([[1, 1], [], [1, 1, 1]], 0)
        self.assertEqual(blocks_told(blocks), [
            (1, 1, 1), (1, 1, 2), (1, 2, 2),
            (3, 1, 1), (3, 1, 2), (3, 1, 3), (3, 2, 2), (3, 2, 3), (3, 3, 3)])

    def test_what_they_seat(self):
        self.assertEqual([block.seats for block in blocks_of([[4, 2, 6]], 0)], [4, 6, 12, 2, 8, 6])
        self.assertEqual([block.seats for block in blocks_of([[4, 2, 6]], 1)], [4, 5, 10, 2, 7, 6])
        self.assertEqual([block.seats for block in blocks_of([[4, 2, 6]], 3)], [4, 3, 6, 2, 5, 6])

    def test_not_below_nothing(self):
        self.assertEqual(seats_together([1, 1], 3), 0)
        self.assertEqual(seats_together([1, 1, 1, 1], 3), 0)
        self.assertEqual([block.seats for block in blocks_of([[1, 1, 1]], 2)], [1, 0, 0, 1, 0, 1])

    def test_a_table_of_one_seat_is_never_bettered_by_a_loss(self):
        house = opening(3, 0, [1, 1])
        self.assertEqual(told(house, walkin(1, 9), walkin(1, 9), walkin(1, 9)), [[0], [0, 1, 1, 1, 1], [0, 2, 1, 2, 2], [-9]])
        self.assertEqual(last(house, walkin(2, 9)), [-9])

    def test_rows_are_not_pushed_together(self):
        self.assertEqual(last(opening(0, 0, [4], [4], [4]), walkin(5, 9)), [-9])
        self.assertEqual(last(opening(0, 0, [4], [4, 4], [4]), walkin(5, 9)), [0, 1, 2, 1, 2])

    def test_the_loss_is_for_each_join(self):
        for loss, most in ((0, 12), (1, 10), (2, 8), (3, 6)):
            house = opening(loss, 0, [4, 4, 4])
            self.assertEqual(last(house, walkin(most, 9)), [0, 1, 1, 1, 3])
            self.assertEqual(last(house, walkin(most + 1, 9)), [-9])


class Tight(unittest.TestCase):
    def test_one_table(self):
        blocks = blocks_of([[4, 2], [3]], 0)
        self.assertEqual(blocks_told(tight_blocks(blocks, 1)), [(1, 1, 1), (1, 2, 2), (2, 1, 1)])
        self.assertEqual(blocks_told(tight_blocks(blocks, 3)), [(1, 1, 1), (2, 1, 1)])

    def test_several_tables(self):
        blocks = blocks_of([[4, 2, 4]], 0)
        self.assertEqual(blocks_told(tight_blocks(blocks, 5)), [(1, 1, 2), (1, 2, 3)])
        self.assertEqual(blocks_told(tight_blocks(blocks, 7)), [(1, 1, 3)])
        self.assertEqual(blocks_told(tight_blocks(blocks, 11)), [])

    def test_a_block_that_seats_fewer_but_is_not_tight_is_not_taken(self):
        # Together they seat 8, but without the table of one seat 10.
        self.assertEqual(last(opening(3, 0, [10, 1]), walkin(8, 9)), [0, 1, 1, 1, 1])
        self.assertEqual(last(opening(3, 0, [1, 10]), walkin(8, 9)), [0, 1, 1, 2, 2])

    def test_a_tight_block_around_a_table_that_would_do(self):
        # The three seat 9 together, and without the first 2, without the last 8; the first alone seats 10.
        self.assertEqual(last(opening(3, 0, [10, 1, 4]), walkin(9, 9)), [0, 1, 1, 1, 3])
        self.assertEqual(last(opening(3, 0, [4, 1, 10]), walkin(9, 9)), [0, 1, 1, 1, 3])


class Taken(unittest.TestCase):
    def test_the_one_that_seats_fewest(self):
        self.assertEqual(last(opening(0, 0, [6, 4, 5]), walkin(3, 9)), [0, 1, 1, 2, 2])
        self.assertEqual(last(opening(0, 0, [2, 2, 5]), walkin(4, 9)), [0, 1, 1, 1, 2])
        self.assertEqual(last(opening(1, 0, [2, 2, 5]), walkin(4, 9)), [0, 1, 1, 3, 3])
        self.assertEqual(last(opening(0, 0, [6], [5], [4]), walkin(4, 9)), [0, 1, 3, 1, 1])

    def test_of_those_with_as_many_the_first_in_order(self):
        given = told(opening(0, 0, [4, 4], [4], [4]), *[walkin(4, 9)] * 5)
        self.assertEqual(given[1:], [[0, 1, 1, 1, 1], [0, 2, 1, 2, 2], [0, 3, 2, 1, 1], [0, 4, 3, 1, 1], [-9]])
        self.assertEqual(last(opening(0, 0, [1, 2, 2, 1]), walkin(3, 9)), [0, 1, 1, 1, 2])
        self.assertEqual(last(opening(0, 0, [1, 3, 1, 3]), walkin(4, 9)), [0, 1, 1, 1, 2])

    def test_a_used_table_is_passed_over(self):
        given = told(opening(0, 0, [2, 2, 2]), walkin(1, 9), walkin(3, 9), walkin(1, 9), leave(1), walkin(1, 9))
        self.assertEqual(given[1:], [[0, 1, 1, 1, 1], [0, 2, 1, 2, 3], [-9], [0], [0, 3, 1, 1, 1]])

    def test_not_the_one_that_breaks_a_promise(self):
        house = opening(0, 0, [2, 2, 2, 2])
        self.assertEqual(told(house, book(4, 0, 9), walkin(2, 9), walkin(2, 9), walkin(2, 9), arrive(1))[2:],
                         [[0, 2, 1, 1, 1], [0, 3, 1, 2, 2], [-9], [0, 1, 3, 4]])
        # The second table would be free now, but it is the one that the promised four need.
        house = opening(0, 0, [2, 4])
        self.assertEqual(told(house, book(4, 5, 9), walkin(2, 9), walkin(2, 9))[2:], [[0, 2, 1, 1, 1], [-9]])
        # The promised nine need the whole first row.
        house = opening(0, 0, [4, 5], [4])
        self.assertEqual(told(house, book(9, 5, 9), walkin(4, 9))[2:], [[0, 2, 2, 1, 1]])


if __name__ == "__main__":
    unittest.main()
