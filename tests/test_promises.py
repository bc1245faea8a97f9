"""book, cancel, arrive: who is promised a table, and who gets one."""

import unittest

from lines import GREATEST, arrive, book, cancel, last, leave, opening, passing, stay, told, walkin
from pushedtables.answering import answer
from pushedtables.reading import read_call
from pushedtables.state import House

ONE_TABLE = opening(0, 0, [4])
FIVE_TABLES = opening(0, 0, [2, 2, 2, 2, 2])


def filled(parties):
    """Calls after which there are so many parties, all of them gone."""
    return [call for number in range(1, parties + 1) for call in (walkin(1, 9), leave(number))]


class Booking(unittest.TestCase):
    def test_answers_the_number(self):
        given = told(opening(0, 0, [2, 2]), book(2, 0, 10), book(2, 0, 10), walkin(2, 5), book(4, 10, 600), book(4, 610, 1))
        self.assertEqual(given[1:], [[0, 1], [0, 2], [-9], [0, 3], [0, 4]])

    def test_numbers_go_on_behind_those_who_are_gone(self):
        given = told(ONE_TABLE, book(4, 0, 10), cancel(1), book(4, 0, 10), arrive(2), leave(2), book(4, 0, 10), walkin(1, 1))
        self.assertEqual(given[1:], [[0, 1], [0], [0, 2], [0, 1, 1, 1], [0], [0, 3], [-9]])

    def test_before_now(self):
        self.assertEqual(told(ONE_TABLE, passing(10), book(4, 9, 10), book(4, 10, 10))[2:], [[-6], [0, 1]])
        self.assertEqual(last(ONE_TABLE, passing(10), book(4, 0, 10)), [-6])

    def test_the_last_minute(self):
        hours = [passing(1000)] * 100
        given = told(ONE_TABLE, *hours, book(4, 99999, 10), book(4, 100000, 600), arrive(1))
        self.assertEqual(given[100:], [[0, 100000], [-6], [0, 1], [0, 1, 1, 1]])
        self.assertEqual(last(ONE_TABLE, book(4, 100000, 600)), [0, 1])

    def test_five_promised(self):
        given = told(FIVE_TABLES, *[book(2, 0, 10)] * 6, cancel(3), book(2, 0, 10))
        self.assertEqual(given[1:], [[0, 1], [0, 2], [0, 3], [0, 4], [0, 5], [-4], [0], [0, 6]])
        given = told(FIVE_TABLES, *[book(2, 0, 10)] * 5, arrive(3), book(2, 10, 10), book(2, 30, 10))
        self.assertEqual(given[6:], [[0, 1, 1, 1], [0, 6], [-4]])

    def test_sixty_parties(self):
        given = told(ONE_TABLE, *filled(59), book(4, 0, 10), book(4, 50, 10), cancel(60), book(4, 0, 10))
        self.assertEqual(given[119:], [[0, 60], [-4], [0], [-4]])

    def test_beside_another_promise(self):
        house = opening(0, 10, [4])
        self.assertEqual(last(house, book(4, 30, 20), book(4, 0, 21)), [-9])
        self.assertEqual(last(house, book(4, 30, 20), book(4, 0, 20)), [0, 2])
        self.assertEqual(last(house, book(4, 30, 20), book(4, 59, 20)), [-9])
        self.assertEqual(last(house, book(4, 30, 20), book(4, 60, 20)), [0, 2])
        self.assertEqual(last(house, book(4, 30, 20), book(4, 35, 1)), [-9])

    def test_beside_a_use(self):
        house = opening(0, 10, [4])
        self.assertEqual(last(house, walkin(4, 20), book(4, 29, 5)), [-9])
        self.assertEqual(last(house, walkin(4, 20), book(4, 30, 5)), [0, 2])

    def test_too_many_for_the_room(self):
        self.assertEqual(last(opening(1, 0, [4, 4], [6]), book(8, 0, 9)), [-9])
        self.assertEqual(last(opening(0, 0, [10] * 8), book(80, 0, 9)), [0, 1])
        self.assertEqual(last(opening(1, 0, [10] * 8), book(74, 0, 9)), [-9])
        self.assertEqual(last(opening(1, 0, [10] * 8), book(73, 0, 9)), [0, 1])

    def test_promises_are_laid_out_anew_for_a_further_one(self):
        # No promise is tied to a table before its party comes.
        house = opening(0, 0, [2, 2, 2, 2])
        self.assertEqual(told(house, book(2, 0, 9), book(2, 0, 9), book(4, 0, 9), book(1, 0, 9))[1:],
                         [[0, 1], [0, 2], [0, 3], [-9]])
        self.assertEqual(told(house, book(2, 0, 9), book(6, 0, 9), book(1, 0, 9))[1:], [[0, 1], [0, 2], [-9]])
        self.assertEqual(told(house, book(4, 0, 5), book(4, 0, 9), book(2, 5, 9), book(2, 5, 9), book(1, 8, 1))[1:],
                         [[0, 1], [0, 2], [0, 3], [0, 4], [-9]])

    def test_while_promises_cannot_be_kept(self):
        broken = [opening(0, 0, [4]), walkin(4, 10), book(4, 10, 10), stay(1, 5)]
        self.assertEqual(told(*broken, book(4, 50, 5))[3:], [[0, 1], [-11]])
        self.assertEqual(told(*broken, cancel(2), book(4, 50, 5))[4:], [[0], [0, 3]])
        self.assertEqual(told(*broken, leave(1), book(4, 50, 5))[4:], [[0], [0, 3]])
        self.assertEqual(told(*broken, passing(14), book(4, 50, 5))[4:], [[0, 14], [-11]])
        self.assertEqual(told(*broken, passing(15), book(4, 50, 5))[4:], [[0, 15], [0, 3]])

    def test_the_order_of_the_refusals(self):
        five = [FIVE_TABLES, *[book(2, 10, 10)] * 5]
        self.assertEqual(last(*five, passing(9), book(2, 8, 10)), [-6])
        self.assertEqual(last(*five, passing(9), book(80, 9, 10)), [-4])
        late = [FIVE_TABLES, walkin(10, 10), *[book(2, 10, 10)] * 5, stay(1, 5)]
        self.assertEqual(told(*late, passing(9), book(2, 9, 10), book(2, 8, 10))[7:], [[0, 5], [0, 9], [-4], [-6]])
        self.assertEqual(last(*late, cancel(2), book(80, 9, 10)), [-11])
        self.assertEqual(last(*late, cancel(2), passing(9), book(80, 8, 10)), [-6])
        full = [ONE_TABLE, *filled(58), walkin(4, 10), book(4, 10, 10), stay(59, 5)]
        self.assertEqual(last(*full, book(4, 50, 10)), [-4])

    def test_refused_changes_nothing(self):
        for refused in (book(4, 4, 9), book(81, 20, 9), book(4, GREATEST, 9), book(4, 20, 9), book(4, 25, 9)):
            before = [ONE_TABLE, book(4, 20, 10), passing(5)]
            after = [arrive(2), cancel(2), book(4, 5, 15), book(4, 30, 10), arrive(2), arrive(3), arrive(4)]
            with self.subTest(refused=refused):
                given = told(*before, refused, *after)
                self.assertLess(given[3][0], 0)
                self.assertEqual(given[:3] + given[4:], told(*before, *after))


class Cancelling(unittest.TestCase):
    def test_the_table_is_free(self):
        given = told(ONE_TABLE, book(4, 0, 10), walkin(4, 10), cancel(1), walkin(4, 10), book(4, 10, 1))
        self.assertEqual(given[1:], [[0, 1], [-9], [0], [0, 2, 1, 1, 1], [0, 3]])

    def test_no_such_party(self):
        self.assertEqual(told(ONE_TABLE, cancel(1), book(4, 0, 9), cancel(2), cancel(60), cancel(1))[1:],
                         [[-7], [0, 1], [-7], [-7], [0]])

    def test_other_stages(self):
        self.assertEqual(last(ONE_TABLE, walkin(4, 9), cancel(1)), [-8])
        self.assertEqual(last(ONE_TABLE, walkin(4, 9), leave(1), cancel(1)), [-8])
        self.assertEqual(last(ONE_TABLE, book(4, 0, 9), cancel(1), cancel(1)), [-8])
        self.assertEqual(last(ONE_TABLE, book(4, 0, 9), passing(9), cancel(1)), [-8])

    def test_refused_changes_nothing(self):
        given = told(ONE_TABLE, book(4, 0, 9), arrive(1), cancel(1), cancel(2), walkin(4, 9), leave(1), walkin(4, 9))
        self.assertEqual(given[2:], [[0, 1, 1, 1], [-8], [-7], [-9], [0], [0, 2, 1, 1, 1]])


class Arriving(unittest.TestCase):
    def test_answers_its_block(self):
        house = opening(1, 5, [4, 4], [2, 6])
        self.assertEqual(told(house, book(7, 0, 30), book(6, 0, 30), arrive(1), arrive(2))[3:], [[0, 1, 1, 2], [0, 2, 2, 2]])

    def test_early(self):
        given = told(ONE_TABLE, book(4, 50, 10), arrive(1), book(4, 59, 5), book(4, 60, 5))
        self.assertEqual(given[2:], [[0, 1, 1, 1], [-9], [0, 2]])

    def test_too_early_for_another_promise(self):
        given = told(ONE_TABLE, book(4, 20, 10), book(4, 50, 10), arrive(2), passing(25), arrive(2), arrive(1), leave(1),
                     arrive(2))
        self.assertEqual(given[3:], [[-9], [0, 25], [-9], [0, 1, 1, 1], [0], [0, 1, 1, 1]])

    def test_early_while_the_table_is_cleared(self):
        house = opening(0, 10, [4])
        given = told(house, walkin(4, 20), book(4, 30, 10), passing(29), arrive(2), passing(1), arrive(2))
        self.assertEqual(given[3:], [[0, 29], [-9], [0, 30], [0, 1, 1, 1]])

    def test_late_up_to_the_last_minute(self):
        self.assertEqual(told(ONE_TABLE, book(4, 0, 10), passing(9), arrive(1))[2:], [[0, 9], [0, 1, 1, 1]])
        self.assertEqual(told(ONE_TABLE, book(4, 0, 10), passing(10), arrive(1))[2:], [[0, 10], [-8]])

    def test_a_late_one_keeps_its_time_to(self):
        given = told(ONE_TABLE, book(4, 0, 10), passing(9), arrive(1), book(4, 9, 1), book(4, 10, 1), passing(1), arrive(2))
        self.assertEqual(given[3:], [[0, 1, 1, 1], [-9], [0, 2], [0, 10], [0, 1, 1, 1]])

    def test_no_longer_among_the_promised(self):
        # Both the seat and the promise of one party would be more than the table holds.
        given = told(ONE_TABLE, book(4, 0, 10), arrive(1), book(4, 10, 5), arrive(1))
        self.assertEqual(given[2:], [[0, 1, 1, 1], [0, 2], [-8]])

    def test_its_times(self):
        house = House()
        for call in (opening(0, 0, [4, 4]), book(4, 50, 10), passing(3), arrive(1), walkin(4, 7)):
            answer(house, read_call(call, 0))
        self.assertEqual([(party.time_from, party.time_to) for party in house.parties], [(3, 60), (3, 10)])

    def test_while_promises_cannot_be_kept(self):
        late = [opening(0, 0, [4], [4]), walkin(4, 10), walkin(4, 10), book(4, 10, 10), book(4, 10, 10), stay(1, 5)]
        given = told(*late, passing(10), arrive(3), passing(4), arrive(3), passing(1), arrive(3), arrive(4))
        self.assertEqual(given[5:], [[0, 1], [0, 10], [-9], [0, 14], [-9], [0, 15], [0, 1, 1, 1], [0, 2, 1, 1]])
        given = told(*late, passing(10), cancel(4), arrive(3))
        self.assertEqual(given[6:], [[0, 10], [0], [0, 2, 1, 1]])

    def test_no_such_party(self):
        self.assertEqual(told(ONE_TABLE, arrive(1), book(4, 0, 9), arrive(2), arrive(1))[1:],
                         [[-7], [0, 1], [-7], [0, 1, 1, 1]])

    def test_other_stages(self):
        self.assertEqual(last(ONE_TABLE, walkin(4, 9), arrive(1)), [-8])
        self.assertEqual(last(ONE_TABLE, walkin(4, 9), leave(1), arrive(1)), [-8])
        self.assertEqual(last(ONE_TABLE, book(4, 0, 9), cancel(1), arrive(1)), [-8])
        self.assertEqual(last(ONE_TABLE, book(4, 0, 9), passing(9), arrive(1)), [-8])

    def test_refused_changes_nothing(self):
        given = told(ONE_TABLE, walkin(4, 20), book(4, 20, 10), arrive(2), arrive(1), arrive(3), passing(20), arrive(2))
        self.assertEqual(given[3:], [[-9], [-8], [-7], [0, 20], [0, 1, 1, 1]])
        # Had the refused one's time from become now, this promise before it would be refused.
        given = told(ONE_TABLE, walkin(4, 5), book(4, 20, 10), arrive(2), book(4, 5, 15))
        self.assertEqual(given[3:], [[-9], [0, 3]])


if __name__ == "__main__":
    unittest.main()
