"""trouble and telloff: the fewest whose promises can't be kept when somebody stays longer than told."""

import unittest

from lines import (PLAN, STATE, TELLOFF, TROUBLE, arrive, book, cancel, last, leave, opening, party, passing, sight, stay,
                   told, walkin)

ONE_TABLE = opening(0, 0, [4])
LATE = [ONE_TABLE, walkin(4, 10), book(4, 10, 20), stay(1, 5)]
# With the tables of six still used, the first row holds both of the promised three or the promised six.
THREES_AND_SIX = [opening(0, 0, [3, 3], [6]), walkin(6, 10), walkin(6, 10), book(3, 10, 10), book(3, 10, 10),
                  book(6, 10, 10)]
# The table of five is used up to 12, so party 7 needs both tables of three from 11 on, where 5 and 6 would be; and of 4
# and 5, who both need the first table, one must go. So [5, 6], [4, 7] and [5, 7] would do.
THREE_LISTS = [opening(0, 0, [3, 3], [], [5]), walkin(3, 5), walkin(2, 8), walkin(3, 5), book(2, 6, 4), book(1, 5, 8),
               book(2, 9, 3), book(5, 11, 3), passing(2), stay(3, 7)]


class InTrouble(unittest.TestCase):
    def test_nobody(self):
        self.assertEqual(last(ONE_TABLE, TROUBLE), [0, 0])
        self.assertEqual(last(ONE_TABLE, book(4, 0, 9), TROUBLE), [0, 0])
        self.assertEqual(last(ONE_TABLE, walkin(4, 10), book(4, 20, 9), stay(1, 10), TROUBLE), [0, 0])
        self.assertEqual(last(opening(0, 0, [2] * 6), *[book(2, 5, 9)] * 5, TROUBLE), [0, 0])

    def test_one(self):
        self.assertEqual(last(*LATE, TROUBLE), [0, 1, 2])
        self.assertEqual(told(ONE_TABLE, walkin(4, 10), book(4, 50, 9), book(4, 20, 9), stay(1, 11), TROUBLE)[4:],
                         [[0, 1], [0, 1, 3]])

    def test_the_clearing_time_counts(self):
        line = [opening(0, 10, [4]), walkin(4, 10), book(4, 25, 5), stay(1, 5), TROUBLE, stay(1, 1), TROUBLE]
        self.assertEqual(told(*line)[3:], [[0, 0], [0, 0], [0, 1], [0, 1, 2]])

    def test_the_fewest_though_of_a_higher_number(self):
        self.assertEqual(told(*THREES_AND_SIX, stay(2, 5), TROUBLE)[6:], [[0, 1], [0, 1, 5]])
        # With the first row used the six are kept, and both of the others are in trouble.
        self.assertEqual(told(*THREES_AND_SIX, stay(1, 5), TROUBLE)[6:], [[0, 2], [0, 2, 3, 4]])

    def test_one_long_promise_against_several_short_ones(self):
        line = [opening(0, 0, [4], [4]), walkin(4, 10), walkin(4, 10), book(4, 10, 30), book(4, 10, 10), book(4, 20, 10),
                book(4, 30, 10), stay(1, 30), TROUBLE]
        self.assertEqual(last(*line), [0, 1, 3])

    def test_of_several_lists_the_one_that_is_less(self):
        two = [opening(0, 0, [4], [4]), walkin(4, 10), walkin(4, 10), book(4, 10, 10), book(4, 10, 10), stay(2, 5)]
        self.assertEqual(last(*two, TROUBLE), [0, 1, 3])
        five = [opening(0, 0, [1] * 5), *[walkin(1, 10)] * 5, *[book(1, 10, 10)] * 5]
        line = five + [call for number in (4, 2, 5, 1, 3) for call in (stay(number, 5), TROUBLE)]
        self.assertEqual(told(*line)[11:], [[0, 1], [0, 1, 6], [0, 2], [0, 2, 6, 7], [0, 3], [0, 3, 6, 7, 8],
                                           [0, 4], [0, 4, 6, 7, 8, 9], [0, 5], [0, 5, 6, 7, 8, 9, 10]])

    def test_less_at_the_first_place_where_they_differ(self):
        self.assertEqual(told(*THREE_LISTS, TROUBLE)[9:], [[0, 2], [0, 2, 4, 7]])
        self.assertEqual(told(*THREE_LISTS, cancel(4), cancel(7), TROUBLE)[10:], [[0], [0], [0, 0]])
        self.assertEqual(told(*THREE_LISTS, cancel(5), cancel(6), TROUBLE)[10:], [[0], [0], [0, 0]])
        self.assertEqual(told(*THREE_LISTS, cancel(4), cancel(5), TROUBLE)[10:], [[0], [0], [0, 1, 6]])

    def test_stay_answers_how_many(self):
        line = [*THREES_AND_SIX, stay(2, 5), TROUBLE, stay(1, 5), TROUBLE]
        self.assertEqual(told(*line)[6:], [[0, 1], [0, 1, 5], [0, 3], [0, 3, 3, 4, 5]])

    def test_one_whose_time_has_begun(self):
        self.assertEqual(told(*LATE, passing(14), TROUBLE, passing(1), TROUBLE, arrive(2))[5:],
                         [[0, 1, 2], [0, 15], [0, 0], [0, 1, 1, 1]])

    def test_trouble_that_ends(self):
        self.assertEqual(last(*LATE, cancel(2), TROUBLE), [0, 0])
        self.assertEqual(last(*LATE, leave(1), TROUBLE), [0, 0])
        self.assertEqual(last(*LATE[:3], stay(1, 600), passing(30), TROUBLE), [0, 0])

    def test_nothing_changes(self):
        given = told(*THREE_LISTS, *sight(7), TROUBLE, TROUBLE, *sight(7))
        self.assertEqual(given[20:22], [[0, 2, 4, 7]] * 2)
        self.assertEqual(given[10:20], given[22:])


class TellingOff(unittest.TestCase):
    def test_nobody(self):
        line = [opening(0, 5, [4, 2]), book(4, 10, 9), walkin(2, 5), passing(1)]
        given = told(*line, *sight(2), TELLOFF, *sight(2), arrive(1))
        self.assertEqual(given[9], [0, 0])
        self.assertEqual(given[4:9], given[10:15])
        self.assertEqual(given[15], [0, 1, 1, 1])

    def test_answers_as_trouble(self):
        for line, told_off in ((LATE, [2]), (THREES_AND_SIX + [stay(2, 5)], [5]), (THREES_AND_SIX + [stay(1, 5)], [3, 4]),
                               (THREE_LISTS, [4, 7])):
            with self.subTest(told_off=told_off):
                given = told(*line, TROUBLE, TELLOFF, TROUBLE, TELLOFF)
                self.assertEqual(given[-4:], [[0, len(told_off)] + told_off] * 2 + [[0, 0]] * 2)

    def test_these_are_told_off_and_no_other_has_changed(self):
        given = told(*THREE_LISTS, *sight(7), TELLOFF, *sight(7))
        before = given[13:20]
        after = given[24:]
        self.assertEqual(before, [[0, 3, 0, 5, 1, 1, 1, 1], [0, 2, 0, 8, 1, 1, 2, 2], [0, 3, 0, 12, 1, 3, 1, 1],
                                  [0, 2, 6, 10, 0, 0, 0, 0], [0, 1, 5, 13, 0, 0, 0, 0], [0, 2, 9, 12, 0, 0, 0, 0],
                                  [0, 5, 11, 14, 0, 0, 0, 0]])
        self.assertEqual(after, before[:3] + [[0, 2, 6, 10, 5, 0, 0, 0]] + before[4:6] + [[0, 5, 11, 14, 5, 0, 0, 0]])
        self.assertEqual(given[10], [0, 2, 7, 4, 3, 0, 0, 0, 2, 3, 3, 0, 1, 5])
        self.assertEqual(given[21], [0, 2, 7, 2, 3, 1, 0, 0, 2, 3, 3, 0, 1, 5])
        # The tables are used as before.
        self.assertEqual(given[11], given[22])
        self.assertEqual((given[12], given[23]), ([-11], [0, 2, 5, 1, 1, 1, 6, 1, 2, 2]))

    def test_all_promises_can_be_kept_then(self):
        given = told(*LATE, STATE, TELLOFF, STATE, book(4, 15, 9), PLAN)
        self.assertEqual(given[4:], [[0, 0, 2, 1, 1, 0, 0, 0, 1, 4, 0, 0], [0, 1, 2], [0, 0, 2, 0, 1, 1, 0, 0, 1, 4, 0, 0],
                                     [0, 3], [0, 1, 3, 1, 1, 1]])

    def test_whoever_is_told_off_is_no_longer_promised(self):
        given = told(*LATE, TELLOFF, arrive(2), cancel(2), leave(2), stay(2, 1), passing(15), walkin(4, 9), party(2))
        self.assertEqual(given[5:], [[-8], [-8], [-8], [-8], [0, 15], [0, 3, 1, 1, 1], [0, 4, 10, 30, 5, 0, 0, 0]])

    def test_told_off_ones_stay_told_off(self):
        self.assertEqual(told(*LATE, TELLOFF, passing(600), party(2))[5:], [[0, 600], [0, 4, 10, 30, 5, 0, 0, 0]])

    def test_they_make_room_for_other_promises(self):
        line = [opening(0, 0, [2] * 5), walkin(10, 10), *[book(2, 10, 10)] * 5, stay(1, 5), book(2, 50, 1), TELLOFF,
                book(2, 50, 1)]
        self.assertEqual(told(*line)[7:], [[0, 5], [-4], [0, 5, 2, 3, 4, 5, 6], [0, 7]])

    def test_without_a_house_nothing_changes(self):
        self.assertEqual(told(TELLOFF, TROUBLE, ONE_TABLE, TELLOFF, TROUBLE), [[-2], [-2], [0], [0, 0], [0, 0]])


if __name__ == "__main__":
    unittest.main()
