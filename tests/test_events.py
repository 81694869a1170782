"""delivery_arrived, delivery_failed, fulfill_commitment and next_day."""

import unittest

from tests.asking import (
    ADD_COMMITMENT, ADD_DELIVERY, CANCEL_COMMITMENT, CREATE, DELIVERY_ARRIVED, DELIVERY_FAILED, FULFILL_COMMITMENT,
    GREATEST, IS_COVERED, LIST_COMMITMENTS, LIST_DELIVERIES, LOOK_DEEPER, NEXT_DAY, SUMMARY, CallsTest, behind, days,
    last,
)

NEW = [(CREATE, 10)]
# On day 2 the first may come, the second may come for the first time, the third may not come yet.
DAY_2 = NEW + [(ADD_DELIVERY, 21, 0, 9), (ADD_DELIVERY, 22, 2, 8), (ADD_DELIVERY, 23, 3, 7)] + days(2)
COMMITTED = NEW + [(ADD_COMMITMENT, 3, 5), (ADD_COMMITMENT, 11, 0), (ADD_COMMITMENT, 7, 30)]


class DeliveryArrivedTest(CallsTest):
    def test_returns_the_new_stock(self):
        self.assertEqual(behind(DAY_2, [(DELIVERY_ARRIVED, 0)]), [[31]])
        self.assertEqual(behind(DAY_2, [(DELIVERY_ARRIVED, 1)]), [[32]])

    def test_later_numbers_decrease_by_one(self):
        self.assertEqual(
            behind(DAY_2, [(DELIVERY_ARRIVED, 0), (LIST_DELIVERIES,), (DELIVERY_ARRIVED, 0), (LIST_DELIVERIES,),
                           (DELIVERY_ARRIVED, 0), (NEXT_DAY,), (DELIVERY_ARRIVED, 0), (LIST_DELIVERIES,)]),
            [[31], [2, 22, 2, 8, 23, 3, 7], [53], [1, 23, 3, 7], [-33], [3], [76], [0]])

    def test_the_added_stock_can_be_used(self):
        self.assertEqual(
            behind(DAY_2, [(ADD_COMMITMENT, 31, 2), (FULFILL_COMMITMENT, 0), (DELIVERY_ARRIVED, 0),
                           (FULFILL_COMMITMENT, 0)]),
            [[0], [-19], [31], [0]])

    def test_arrives_on_its_earliest_and_on_its_latest_day(self):
        self.assertEqual(behind(NEW + [(ADD_DELIVERY, 4, 0, 30)], [(DELIVERY_ARRIVED, 0)]), [[14]])
        self.assertEqual(behind(NEW + [(ADD_DELIVERY, 4, 3, 6)] + days(3), [(DELIVERY_ARRIVED, 0)]), [[14]])
        self.assertEqual(behind(NEW + [(ADD_DELIVERY, 4, 3, 6)] + days(6), [(DELIVERY_ARRIVED, 0)]), [[14]])
        self.assertEqual(behind(NEW + [(ADD_DELIVERY, 4, 30, 30)] + days(30), [(DELIVERY_ARRIVED, 0)]), [[14]])

    def test_the_stock_may_grow_beyond_999(self):
        before = [(CREATE, 999)] + [(ADD_DELIVERY, 99, 0, 0)] * 6
        self.assertEqual(
            behind(before, [(DELIVERY_ARRIVED, 5 - number) for number in range(6)]),
            [[1098], [1197], [1296], [1395], [1494], [1593]])

    def test_refuses_before_the_earliest_day(self):
        self.refused(DAY_2, (DELIVERY_ARRIVED, 2), -33)
        self.refused(NEW + [(ADD_DELIVERY, 4, 1, 1)], (DELIVERY_ARRIVED, 0), -33)
        self.refused(NEW + [(ADD_DELIVERY, 4, 30, 30)] + days(29), (DELIVERY_ARRIVED, 0), -33)

    def test_refuses_a_number_that_is_not_there(self):
        for before, count in [(NEW, 0), (DAY_2, 3), (NEW + [(ADD_DELIVERY, 1, 1, 1)] * 6, 6)]:
            for delivery in [count, count + 1, 4294967290, GREATEST]:
                self.refused(before, (DELIVERY_ARRIVED, delivery), -2)


class DeliveryFailedTest(CallsTest):
    def test_returns_how_many_remain(self):
        self.assertEqual(behind(DAY_2, [(DELIVERY_FAILED, 0)] * 4), [[2], [1], [0], [-2]])
        six = NEW + [(ADD_DELIVERY, 1, 1, 1)] * 6
        self.assertEqual(
            behind(six, [(DELIVERY_FAILED, 5 - number) for number in range(6)]), [[5], [4], [3], [2], [1], [0]])

    def test_later_numbers_decrease_by_one(self):
        for gone, left in [(0, [22, 2, 8, 23, 3, 7]), (1, [21, 0, 9, 23, 3, 7]), (2, [21, 0, 9, 22, 2, 8])]:
            self.assertEqual(
                behind(DAY_2, [(DELIVERY_FAILED, gone), (LIST_DELIVERIES,), (ADD_DELIVERY, 24, 4, 6),
                               (LIST_DELIVERIES,), (DELIVERY_FAILED, 1), (LIST_DELIVERIES,)]),
                [[2], [2] + left, [2], [3] + left + [24, 4, 6], [2], [2] + left[:3] + [24, 4, 6]])

    def test_may_fail_before_its_earliest_day(self):
        self.assertEqual(behind(NEW + [(ADD_DELIVERY, 4, 30, 30)], [(DELIVERY_FAILED, 0)]), [[0]])

    def test_leaves_stock_day_and_commitments(self):
        before = NEW + days(2) + [(ADD_COMMITMENT, 3, 4)]
        after = before + [(ADD_DELIVERY, 9, 1, 7), (DELIVERY_FAILED, 0)]
        look = [call for call in LOOK_DEEPER if call != (SUMMARY,)]
        self.assertEqual(behind(after, look), behind(before, look))
        self.assertEqual(last(after + [(SUMMARY,)]), [2, 10, 0, 1, 0, 1, 0])

    def test_refuses_a_number_that_is_not_there(self):
        for before, count in [(NEW, 0), (DAY_2, 3), (NEW + [(ADD_DELIVERY, 1, 1, 1)] * 6, 6)]:
            for delivery in [count, count + 1, 4294967290, GREATEST]:
                self.refused(before, (DELIVERY_FAILED, delivery), -2)


class FulfillCommitmentTest(CallsTest):
    def test_returns_the_new_stock(self):
        self.assertEqual(behind(COMMITTED, [(FULFILL_COMMITMENT, 0)]), [[7]])
        self.assertEqual(behind(COMMITTED, [(FULFILL_COMMITMENT, 2)]), [[3]])

    def test_later_numbers_decrease_by_one(self):
        self.assertEqual(
            behind(COMMITTED, [(FULFILL_COMMITMENT, 0), (LIST_COMMITMENTS,), (FULFILL_COMMITMENT, 1),
                               (LIST_COMMITMENTS,), (FULFILL_COMMITMENT, 1)]),
            [[7], [2, 11, 0, 7, 30], [0], [1, 11, 0], [-2]])

    def test_may_be_due_later_or_today(self):
        self.assertEqual(behind(NEW + [(ADD_COMMITMENT, 4, 30)], [(FULFILL_COMMITMENT, 0)]), [[6]])
        self.assertEqual(behind(NEW + [(ADD_COMMITMENT, 4, 3)] + days(3), [(FULFILL_COMMITMENT, 0)]), [[6]])

    def test_takes_the_whole_stock(self):
        self.assertEqual(
            behind(NEW + [(ADD_COMMITMENT, 10, 0)], [(FULFILL_COMMITMENT, 0), (LIST_COMMITMENTS,)]), [[0], [0]])

    def test_refuses_when_the_stock_is_too_small(self):
        self.refused(COMMITTED, (FULFILL_COMMITMENT, 1), -19)
        self.refused([(CREATE, 0), (ADD_COMMITMENT, 1, 0)], (FULFILL_COMMITMENT, 0), -19)
        self.refused([(CREATE, 0), (ADD_DELIVERY, 9, 0, 0), (ADD_COMMITMENT, 1, 0)], (FULFILL_COMMITMENT, 0), -19)

    def test_refuses_a_number_that_is_not_there(self):
        for before, count in [(NEW, 0), (COMMITTED, 3), (NEW + [(ADD_COMMITMENT, 99, 1)] * 7, 7)]:
            for commitment in [count, count + 1, 4294967289, GREATEST]:
                self.refused(before, (FULFILL_COMMITMENT, commitment), -2)


class NextDayTest(CallsTest):
    def test_counts_to_30_and_no_further(self):
        self.assertEqual(behind(NEW, days(30)), [[day] for day in range(1, 31)])
        self.refused(NEW + days(30), (NEXT_DAY,), -75)

    def test_refuses_while_a_commitment_is_due_today(self):
        for day in [0, 1, 17, 30]:
            before = NEW + days(day) + [(ADD_COMMITMENT, 1, 30), (ADD_COMMITMENT, 4, day)]
            self.refused(before, (NEXT_DAY,), -30)

    def test_goes_on_once_the_commitment_is_gone(self):
        before = NEW + [(ADD_COMMITMENT, 4, 3)] + days(3)
        self.assertEqual(behind(before, [(NEXT_DAY,), (FULFILL_COMMITMENT, 0), (NEXT_DAY,)]), [[-30], [6], [4]])
        self.assertEqual(behind(before, [(NEXT_DAY,), (CANCEL_COMMITMENT, 0), (NEXT_DAY,)]), [[-30], [0], [4]])

    def test_refuses_on_the_latest_day_of_a_delivery(self):
        for day in [0, 1, 17, 30]:
            before = NEW + days(day) + [(ADD_DELIVERY, 1, 0, 30), (ADD_DELIVERY, 4, 0, day)]
            self.refused(before, (NEXT_DAY,), -33)

    def test_goes_on_once_the_delivery_is_gone(self):
        before = NEW + [(ADD_DELIVERY, 4, 1, 3)] + days(3)
        self.assertEqual(behind(before, [(NEXT_DAY,), (DELIVERY_ARRIVED, 0), (NEXT_DAY,)]), [[-33], [14], [4]])
        self.assertEqual(behind(before, [(NEXT_DAY,), (DELIVERY_FAILED, 0), (NEXT_DAY,)]), [[-33], [0], [4]])

    def test_what_is_due_or_late_tomorrow_does_not_hold_it(self):
        before = NEW + [(ADD_COMMITMENT, 99, 1), (ADD_DELIVERY, 1, 0, 1)]
        self.assertEqual(behind(before, [(NEXT_DAY,), (NEXT_DAY,)]), [[1], [-30]])

    def test_errors_come_in_their_order(self):
        for day in [5, 30]:
            before = NEW + days(day) + [(ADD_DELIVERY, 4, 0, day), (ADD_COMMITMENT, 4, day)]
            after = [[6]] if day == 5 else [[-75]]
            self.refused(before, (NEXT_DAY,), -30)
            self.refused(before + [(FULFILL_COMMITMENT, 0)], (NEXT_DAY,), -33)
            self.assertEqual(behind(before + [(FULFILL_COMMITMENT, 0), (DELIVERY_ARRIVED, 0)], [(NEXT_DAY,)]), after)

    def test_leaves_stock_and_lists(self):
        before = NEW + [(ADD_DELIVERY, 4, 1, 9), (ADD_COMMITMENT, 12, 9)]
        self.assertEqual(
            behind(before, [(NEXT_DAY,), (LIST_DELIVERIES,), (LIST_COMMITMENTS,), (IS_COVERED, 0), (IS_COVERED, 1),
                            (DELIVERY_ARRIVED, 0), (FULFILL_COMMITMENT, 0)]),
            [[1], [1, 4, 1, 9], [1, 12, 9], [1], [0], [14], [2]])


if __name__ == "__main__":
    unittest.main()
