"""walkin, leave, stay, pass: who sits where and up to when."""

import unittest

from lines import arrive, book, cancel, last, leave, opening, passing, stay, told, walkin

ONE_TABLE = opening(0, 0, [4])
CLEARED = opening(0, 10, [4])


class WalkingIn(unittest.TestCase):
    def test_answers_the_number_and_the_block(self):
        house = opening(1, 0, [2, 3], [6])
        self.assertEqual(told(house, walkin(4, 1), walkin(5, 600), walkin(1, 1))[1:],
                         [[0, 1, 1, 1, 2], [0, 2, 2, 1, 1], [-9]])

    def test_free_at_the_very_minute(self):
        given = told(CLEARED, walkin(4, 20), passing(29), walkin(4, 5), passing(1), walkin(4, 5))
        self.assertEqual(given[1:], [[0, 1, 1, 1, 1], [0, 29], [-9], [0, 30], [0, 2, 1, 1, 1]])
        given = told(ONE_TABLE, walkin(4, 20), passing(19), walkin(4, 5), passing(1), walkin(4, 5))
        self.assertEqual(given[2:], [[0, 19], [-9], [0, 20], [0, 2, 1, 1, 1]])
        given = told(opening(0, 60, [4]), walkin(4, 20), passing(79), walkin(4, 5), passing(1), walkin(4, 5))
        self.assertEqual(given[2:], [[0, 79], [-9], [0, 80], [0, 2, 1, 1, 1]])

    def test_up_to_a_promise(self):
        self.assertEqual(last(CLEARED, book(4, 50, 10), walkin(4, 41)), [-9])
        self.assertEqual(last(CLEARED, book(4, 50, 10), walkin(4, 40)), [0, 2, 1, 1, 1])
        self.assertEqual(last(CLEARED, passing(3), book(4, 50, 10), walkin(4, 38)), [-9])
        self.assertEqual(last(CLEARED, passing(3), book(4, 50, 10), walkin(4, 37)), [0, 2, 1, 1, 1])

    def test_a_promise_whose_time_has_begun(self):
        self.assertEqual(last(ONE_TABLE, book(4, 5, 10), passing(14), walkin(4, 1)), [-9])
        self.assertEqual(last(ONE_TABLE, book(4, 5, 10), passing(15), walkin(4, 1)), [0, 2, 1, 1, 1])
        # Promised up to 15, not come by 7: the other table, which is free from 7 on, must do for it.
        two = [opening(0, 0, [4], [4]), walkin(4, 7), walkin(4, 5), book(4, 5, 10), passing(6)]
        self.assertEqual(told(*two, walkin(4, 1))[4:], [[0, 6], [-9]])
        self.assertEqual(told(*two, passing(1), walkin(4, 1), arrive(3))[5:], [[0, 7], [0, 4, 1, 1, 1], [0, 2, 1, 1]])

    def test_sixty_parties(self):
        gone = [call for number in range(1, 61) for call in (walkin(1, 9), leave(number))]
        given = told(ONE_TABLE, *gone, walkin(1, 9), walkin(80, 9))
        self.assertEqual(given[119:], [[0, 60, 1, 1, 1], [0], [-4], [-4]])

    def test_sixty_called_off_are_parties_too(self):
        gone = [call for number in range(1, 61) for call in (book(1, 5, 9), cancel(number))]
        self.assertEqual(told(ONE_TABLE, *gone, walkin(1, 9))[119:], [[0, 60], [0], [-4]])

    def test_five_promised_do_not_bar_it(self):
        house = opening(0, 0, [1] * 6)
        self.assertEqual(last(house, *[book(1, 0, 9)] * 5, walkin(1, 9)), [0, 6, 1, 1, 1])
        self.assertEqual(last(house, *[book(1, 0, 9)] * 5, walkin(1, 9), walkin(1, 9)), [-9])

    def test_while_promises_cannot_be_kept(self):
        late = [opening(0, 0, [4, 2]), walkin(4, 10), book(4, 10, 10), stay(1, 5)]
        self.assertEqual(told(*late, walkin(2, 1), cancel(2), walkin(2, 1))[3:], [[0, 1], [-9], [0], [0, 3, 1, 2, 2]])

    def test_refused_changes_nothing(self):
        given = told(ONE_TABLE, walkin(5, 9), walkin(4, 601), walkin(4, 9), walkin(4, 9), leave(2), leave(1), walkin(4, 9))
        self.assertEqual(given[1:], [[-9], [-1], [0, 1, 1, 1, 1], [-9], [-7], [0], [0, 2, 1, 1, 1]])


class Leaving(unittest.TestCase):
    def test_its_time_to_is_now(self):
        given = told(CLEARED, walkin(4, 100), passing(5), leave(1), passing(9), walkin(4, 5), passing(1), walkin(4, 5))
        self.assertEqual(given[2:], [[0, 5], [0], [0, 14], [-9], [0, 15], [0, 2, 1, 1, 1]])

    def test_at_once(self):
        self.assertEqual(told(ONE_TABLE, walkin(4, 100), leave(1), walkin(4, 9))[2:], [[0], [0, 2, 1, 1, 1]])
        self.assertEqual(told(CLEARED, walkin(4, 100), leave(1), walkin(4, 9), book(4, 9, 1), book(4, 10, 1))[2:],
                         [[0], [-9], [-9], [0, 2]])

    def test_whoever_had_been_promised(self):
        given = told(CLEARED, book(4, 50, 10), arrive(1), leave(1), passing(10), walkin(4, 600))
        self.assertEqual(given[2:], [[0, 1, 1, 1], [0], [0, 10], [0, 2, 1, 1, 1]])

    def test_no_such_party(self):
        self.assertEqual(told(ONE_TABLE, leave(1), walkin(4, 9), leave(2), leave(60), leave(1))[1:],
                         [[-7], [0, 1, 1, 1, 1], [-7], [-7], [0]])

    def test_other_stages(self):
        self.assertEqual(last(ONE_TABLE, book(4, 0, 9), leave(1)), [-8])
        self.assertEqual(last(ONE_TABLE, walkin(4, 9), leave(1), leave(1)), [-8])
        self.assertEqual(last(ONE_TABLE, walkin(4, 9), passing(9), leave(1)), [-8])
        self.assertEqual(last(ONE_TABLE, book(4, 0, 9), cancel(1), leave(1)), [-8])
        self.assertEqual(last(ONE_TABLE, book(4, 0, 9), passing(9), leave(1)), [-8])

    def test_refused_changes_nothing(self):
        # The second leaving must not move the clearing time.
        given = told(CLEARED, walkin(4, 9), leave(1), passing(5), leave(1), leave(2), passing(5), walkin(4, 5))
        self.assertEqual(given[3:], [[0, 5], [-8], [-7], [0, 10], [0, 2, 1, 1, 1]])
        self.assertEqual(told(ONE_TABLE, book(4, 0, 9), leave(1), walkin(4, 1), arrive(1))[2:], [[-8], [-9], [0, 1, 1, 1]])


class Staying(unittest.TestCase):
    def test_nobody_in_trouble(self):
        given = told(CLEARED, walkin(4, 20), stay(1, 5), book(4, 34, 5), book(4, 35, 5), stay(1, 1))
        self.assertEqual(given[2:], [[0, 0], [-9], [0, 2], [0, 1]])

    def test_later_than_it_was_not_than_now(self):
        given = told(ONE_TABLE, walkin(4, 20), passing(15), stay(1, 5), passing(9), walkin(4, 1), passing(1), walkin(4, 1))
        self.assertEqual(given[3:], [[0, 0], [0, 24], [-9], [0, 25], [0, 2, 1, 1, 1]])

    def test_again_and_again(self):
        given = told(ONE_TABLE, walkin(4, 600), *[stay(1, 600)] * 60, *[passing(1000)] * 36, passing(599), walkin(4, 1),
                     passing(1), walkin(4, 1))
        self.assertEqual(given[2:62], [[0, 0]] * 60)
        self.assertEqual(given[98:], [[0, 36599], [-9], [0, 36600], [0, 2, 1, 1, 1]])

    def test_the_fewest_are_counted(self):
        # With the table of six still used, the first row holds the promised six or both of the promised three.
        house = opening(0, 0, [3, 3], [6])
        given = told(house, walkin(6, 10), walkin(6, 10), book(6, 10, 10), book(3, 10, 10), book(3, 10, 10), stay(2, 5),
                     stay(1, 5))
        self.assertEqual(given[1:3], [[0, 1, 1, 1, 2], [0, 2, 2, 1, 1]])
        self.assertEqual(given[6:], [[0, 1], [0, 3]])

    def test_one_long_promise_against_several_short_ones(self):
        house = opening(0, 0, [4], [4])
        given = told(house, walkin(4, 10), walkin(4, 10), book(4, 10, 30), book(4, 10, 10), book(4, 20, 10), book(4, 30, 10),
                     stay(1, 30))
        self.assertEqual(given[2:], [[0, 2, 2, 1, 1], [0, 3], [0, 4], [0, 5], [0, 6], [0, 1]])

    def test_up_to_all_five(self):
        house = opening(0, 0, [1] * 5)
        line = [house, *[walkin(1, 10)] * 5, *[book(1, 10, 10)] * 5, *[stay(number, 5) for number in range(1, 6)]]
        self.assertEqual(told(*line)[11:], [[0, 1], [0, 2], [0, 3], [0, 4], [0, 5]])

    def test_trouble_passes(self):
        late = [ONE_TABLE, walkin(4, 10), book(4, 10, 20), stay(1, 5)]
        self.assertEqual(told(*late, passing(15), arrive(2))[3:], [[0, 1], [0, 15], [0, 1, 1, 1]])

    def test_the_clearing_time_counts(self):
        self.assertEqual(told(CLEARED, walkin(4, 10), book(4, 25, 5), stay(1, 5), stay(1, 1))[3:], [[0, 0], [0, 1]])

    def test_no_such_party(self):
        self.assertEqual(told(ONE_TABLE, stay(1, 1), walkin(4, 9), stay(2, 1), stay(60, 1), stay(1, 1))[1:],
                         [[-7], [0, 1, 1, 1, 1], [-7], [-7], [0, 0]])

    def test_other_stages(self):
        self.assertEqual(last(ONE_TABLE, book(4, 0, 9), stay(1, 1)), [-8])
        self.assertEqual(last(ONE_TABLE, walkin(4, 9), leave(1), stay(1, 1)), [-8])
        self.assertEqual(last(ONE_TABLE, walkin(4, 9), passing(9), stay(1, 1)), [-8])
        self.assertEqual(last(ONE_TABLE, book(4, 0, 9), cancel(1), stay(1, 1)), [-8])
        self.assertEqual(last(ONE_TABLE, book(4, 0, 9), passing(9), stay(1, 1)), [-8])

    def test_refused_changes_nothing(self):
        given = told(ONE_TABLE, walkin(4, 9), leave(1), stay(1, 9), stay(2, 9), walkin(4, 9))
        self.assertEqual(given[3:], [[-8], [-7], [0, 2, 1, 1, 1]])
        given = told(ONE_TABLE, book(4, 5, 5), stay(1, 9), walkin(4, 5), stay(2, 601), book(4, 10, 5))
        self.assertEqual(given[2:], [[-8], [0, 2, 1, 1, 1], [-1], [0, 3]])


class Passing(unittest.TestCase):
    def test_answers_now(self):
        self.assertEqual(told(ONE_TABLE, passing(1), passing(1000), passing(7))[1:], [[0, 1], [0, 1001], [0, 1008]])

    def test_up_to_the_last_minute(self):
        given = told(ONE_TABLE, *[passing(1000)] * 99, passing(999), passing(2), passing(1), passing(1), passing(1000))
        self.assertEqual(given[100:], [[0, 99999], [-10], [0, 100000], [-10], [-10]])

    def test_those_at_a_table_leave_at_their_time_to(self):
        self.assertEqual(told(ONE_TABLE, walkin(4, 9), passing(8), stay(1, 1), passing(2), stay(1, 1))[3:],
                         [[0, 0], [0, 10], [-8]])
        # It left at 9, not when time was passed, so the clearing time is over at 19.
        given = told(CLEARED, walkin(4, 9), passing(15), walkin(4, 1), passing(4), walkin(4, 1))
        self.assertEqual(given[2:], [[0, 15], [-9], [0, 19], [0, 2, 1, 1, 1]])

    def test_promised_ones_never_come(self):
        given = told(ONE_TABLE, book(4, 5, 10), passing(14), cancel(2), arrive(1))
        self.assertEqual(given[2:], [[0, 14], [-7], [0, 1, 1, 1]])
        given = told(ONE_TABLE, book(4, 5, 10), passing(15), arrive(1), cancel(1), leave(1))
        self.assertEqual(given[2:], [[0, 15], [-8], [-8], [-8]])
        given = told(ONE_TABLE, book(4, 5, 10), passing(600), arrive(1), walkin(4, 600))
        self.assertEqual(given[2:], [[0, 600], [-8], [0, 2, 1, 1, 1]])

    def test_those_who_never_came_need_no_clearing(self):
        self.assertEqual(told(CLEARED, book(4, 5, 10), passing(15), walkin(4, 1))[2:], [[0, 15], [0, 2, 1, 1, 1]])

    def test_those_who_never_came_make_room_for_promises(self):
        house = opening(0, 0, [1] * 5)
        given = told(house, *[book(1, 0, 9)] * 5, passing(8), book(1, 9, 9), passing(1), book(1, 9, 9))
        self.assertEqual(given[6:], [[0, 8], [-4], [0, 9], [0, 6]])

    def test_called_off_ones_stay_called_off(self):
        given = told(ONE_TABLE, book(4, 0, 9), cancel(1), passing(20), arrive(1), cancel(1))
        self.assertEqual(given[2:], [[0], [0, 20], [-8], [-8]])

    def test_refused_changes_nothing(self):
        hours = [passing(1000)] * 99
        given = told(ONE_TABLE, *hours, walkin(4, 600), book(4, 99600, 600), passing(500), passing(501), stay(1, 1), leave(1),
                     arrive(2), book(4, 99499, 1), book(4, 99500, 1))
        self.assertEqual(given[102:], [[0, 99500], [-10], [0, 1], [0], [0, 1, 1, 1], [-6], [-9]])


if __name__ == "__main__":
    unittest.main()
