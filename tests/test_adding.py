"""add_delivery, add_commitment, add_covered_commitment and cancel_commitment, with the lists that show them."""

import unittest

from tests.asking import (
    ADD_COMMITMENT, ADD_COVERED_COMMITMENT, ADD_DELIVERY, CANCEL_COMMITMENT, CREATE, FULFILL_COMMITMENT, GREATEST,
    IS_COVERED, LIST_COMMITMENTS, LIST_DELIVERIES, LOOK_DEEPER, CallsTest, ask, behind, days, last,
)

NEW = [(CREATE, 10)]
DAY_4 = NEW + days(4)
DAY_30 = NEW + days(30)
SIX_DELIVERIES = NEW + [(ADD_DELIVERY, number + 1, 0, 30) for number in range(6)]
SEVEN_COMMITMENTS = [(CREATE, 999)] + [(ADD_COMMITMENT, number + 1, 30) for number in range(7)]


class AddDeliveryTest(CallsTest):
    def test_returns_numbers_in_the_order_of_adding(self):
        self.assertEqual(ask(SIX_DELIVERIES), [[0], [0], [1], [2], [3], [4], [5]])
        self.assertEqual(
            last(SIX_DELIVERIES + [(LIST_DELIVERIES,)]),
            [6, 1, 0, 30, 2, 0, 30, 3, 0, 30, 4, 0, 30, 5, 0, 30, 6, 0, 30])

    def test_takes_the_edges_of_each_range(self):
        for amount, earliest, latest in [(1, 0, 0), (99, 0, 30), (50, 30, 30), (1, 29, 30), (99, 7, 7)]:
            self.assertEqual(
                behind(NEW, [(ADD_DELIVERY, amount, earliest, latest), (LIST_DELIVERIES,)]),
                [[0], [1, amount, earliest, latest]])

    def test_takes_an_earliest_day_before_today(self):
        for earliest in [0, 3, 4]:
            self.assertEqual(
                behind(DAY_4, [(ADD_DELIVERY, 5, earliest, 4), (LIST_DELIVERIES,)]), [[0], [1, 5, earliest, 4]])
        self.assertEqual(behind(DAY_30, [(ADD_DELIVERY, 5, 0, 30), (ADD_DELIVERY, 5, 30, 30)]), [[0], [1]])

    def test_refuses_a_wrong_amount(self):
        for amount in [0, 100, 101, 65537, GREATEST - 1, GREATEST]:
            self.refused(NEW, (ADD_DELIVERY, amount, 2, 5), -22)

    def test_refuses_a_latest_day_before_the_earliest(self):
        for earliest, latest in [(1, 0), (6, 5), (30, 29), (31, 30), (GREATEST, 30), (GREATEST, 0)]:
            self.refused(NEW, (ADD_DELIVERY, 5, earliest, latest), -22)

    def test_refuses_a_latest_day_before_today(self):
        for earliest, latest in [(0, 0), (0, 3), (3, 3)]:
            self.refused(DAY_4, (ADD_DELIVERY, 5, earliest, latest), -22)
        self.refused(DAY_30, (ADD_DELIVERY, 5, 0, 29), -22)

    def test_refuses_a_latest_day_behind_day_30(self):
        for earliest, latest in [(0, 31), (31, 31), (0, GREATEST), (GREATEST, GREATEST)]:
            self.refused(NEW, (ADD_DELIVERY, 5, earliest, latest), -22)
            self.refused(DAY_30, (ADD_DELIVERY, 5, earliest, latest), -22)

    def test_refuses_a_seventh_delivery(self):
        self.refused(SIX_DELIVERIES, (ADD_DELIVERY, 1, 0, 30), -28)

    def test_a_wrong_number_is_told_before_a_seventh_delivery(self):
        for numbers in [(0, 0, 30), (100, 0, 30), (1, 5, 4), (1, 0, 31), (GREATEST, GREATEST, GREATEST)]:
            self.refused(SIX_DELIVERIES, (ADD_DELIVERY,) + numbers, -22)
        later = [(CREATE, 1), (ADD_DELIVERY, 1, 0, 30)] + days(2) + [(ADD_DELIVERY, 1, 0, 30)] * 5
        self.refused(later, (ADD_DELIVERY, 1, 0, 1), -22)
        self.refused(later, (ADD_DELIVERY, 1, 0, 2), -28)

    def test_takes_another_once_one_of_six_is_gone(self):
        for gone in range(6):
            for event in [(5, gone), (6, gone)]:
                self.assertEqual(behind(SIX_DELIVERIES + [event], [(ADD_DELIVERY, 1, 0, 30)]), [[5]])


class AddCommitmentTest(CallsTest):
    def test_returns_numbers_in_the_order_of_adding(self):
        self.assertEqual(ask(SEVEN_COMMITMENTS), [[0], [0], [1], [2], [3], [4], [5], [6]])
        self.assertEqual(
            last(SEVEN_COMMITMENTS + [(LIST_COMMITMENTS,)]), [7, 1, 30, 2, 30, 3, 30, 4, 30, 5, 30, 6, 30, 7, 30])

    def test_takes_the_edges_of_each_range(self):
        for before, amount, due in [(NEW, 1, 0), (NEW, 99, 30), (NEW, 99, 0), (DAY_4, 1, 4), (DAY_30, 1, 30)]:
            self.assertEqual(
                behind(before, [(ADD_COMMITMENT, amount, due), (LIST_COMMITMENTS,)]), [[0], [1, amount, due]])

    def test_need_not_be_covered(self):
        self.assertEqual(
            behind(NEW, [(ADD_COMMITMENT, 99, 0), (IS_COVERED, 0), (ADD_COMMITMENT, 99, 0), (LIST_COMMITMENTS,)]),
            [[0], [0], [1], [2, 99, 0, 99, 0]])

    def test_refuses_a_wrong_amount(self):
        for amount in [0, 100, 101, 65537, GREATEST - 1, GREATEST]:
            self.refused(NEW, (ADD_COMMITMENT, amount, 5), -22)

    def test_refuses_a_wrong_day(self):
        for before, due in [(NEW, 31), (NEW, GREATEST), (DAY_4, 3), (DAY_4, 0), (DAY_30, 29), (DAY_30, 31)]:
            self.refused(before, (ADD_COMMITMENT, 5, due), -22)

    def test_refuses_an_eighth_commitment(self):
        self.refused(SEVEN_COMMITMENTS, (ADD_COMMITMENT, 1, 30), -28)

    def test_a_wrong_number_is_told_before_an_eighth_commitment(self):
        for numbers in [(0, 30), (100, 30), (1, 31), (GREATEST, GREATEST)]:
            self.refused(SEVEN_COMMITMENTS, (ADD_COMMITMENT,) + numbers, -22)
        self.refused(SEVEN_COMMITMENTS + days(2), (ADD_COMMITMENT, 1, 1), -22)

    def test_takes_another_once_one_of_seven_is_gone(self):
        for gone in range(7):
            for event in [(CANCEL_COMMITMENT, gone), (FULFILL_COMMITMENT, gone)]:
                self.assertEqual(behind(SEVEN_COMMITMENTS + [event], [(ADD_COMMITMENT, 1, 30)]), [[6]])


class AddCoveredCommitmentTest(CallsTest):
    # By day 5 there are 30 and by day 8 there are 45; with one failure 10 and 25, with two or more 10.
    SUPPLIED = NEW + [(ADD_DELIVERY, 20, 2, 5), (ADD_DELIVERY, 15, 1, 8)]

    def test_takes_what_is_covered_to_the_last_unit(self):
        for k, day, most in [(0, 4, 10), (0, 5, 30), (0, 7, 30), (0, 8, 45), (0, 30, 45), (1, 0, 10), (1, 7, 10),
                             (1, 8, 25), (2, 8, 10), (3, 30, 10), (6, 30, 10)]:
            self.assertEqual(
                behind(self.SUPPLIED, [(ADD_COVERED_COMMITMENT, k, most, day), (LIST_COMMITMENTS,), (IS_COVERED, k)]),
                [[0], [1, most, day], [1]])
            self.refused(self.SUPPLIED, (ADD_COVERED_COMMITMENT, k, most + 1, day), -30)

    def test_counts_the_commitments_that_are_there(self):
        before = self.SUPPLIED + [(ADD_COMMITMENT, 8, 3), (ADD_COMMITMENT, 18, 6)]
        self.assertEqual(behind(before, [(ADD_COVERED_COMMITMENT, 0, 19, 9)]), [[2]])
        self.refused(before, (ADD_COVERED_COMMITMENT, 0, 20, 9), -30)
        self.assertEqual(behind(before, [(ADD_COVERED_COMMITMENT, 0, 2, 0)]), [[2]])
        self.refused(before, (ADD_COVERED_COMMITMENT, 0, 3, 0), -30)

    def test_refuses_if_another_commitment_is_not_covered(self):
        before = self.SUPPLIED + [(ADD_COMMITMENT, 11, 0)]
        self.refused(before, (ADD_COVERED_COMMITMENT, 0, 1, 30), -30)

    def test_refuses_what_would_take_from_a_later_commitment(self):
        before = NEW + [(ADD_COMMITMENT, 10, 20)]
        self.refused(before, (ADD_COVERED_COMMITMENT, 0, 1, 3), -30)

    def test_takes_the_edges_of_each_range(self):
        rich = [(CREATE, 999)]
        for k in range(7):
            for amount in [1, 99]:
                for before, due in [(rich, 0), (rich, 30), (rich + days(4), 4), (rich + days(30), 30)]:
                    self.assertEqual(
                        behind(before, [(ADD_COVERED_COMMITMENT, k, amount, due), (LIST_COMMITMENTS,)]),
                        [[0], [1, amount, due]])

    def test_refuses_a_wrong_number(self):
        for k, amount, due in [(7, 1, 30), (8, 1, 30), (GREATEST, 1, 30), (0, 0, 30), (0, 100, 30), (0, GREATEST, 30),
                               (0, 1, 31), (0, 1, GREATEST), (0, 1, 3), (GREATEST, GREATEST, GREATEST)]:
            self.refused(DAY_4, (ADD_COVERED_COMMITMENT, k, amount, due), -22)

    def test_refuses_an_eighth_commitment(self):
        self.refused(SEVEN_COMMITMENTS, (ADD_COVERED_COMMITMENT, 0, 1, 30), -28)

    def test_a_wrong_number_is_told_before_an_eighth_commitment(self):
        for k, amount, due in [(7, 1, 30), (0, 0, 30), (0, 100, 30), (0, 1, 31), (GREATEST, GREATEST, GREATEST)]:
            self.refused(SEVEN_COMMITMENTS, (ADD_COVERED_COMMITMENT, k, amount, due), -22)

    def test_a_wrong_number_is_told_before_a_shortage(self):
        short = NEW + days(1) + [(ADD_COMMITMENT, 99, 1)]
        for k, amount, due in [(7, 1, 30), (0, 0, 30), (0, 100, 30), (0, 1, 31), (0, 1, 0)]:
            self.refused(short, (ADD_COVERED_COMMITMENT, k, amount, due), -22)
        self.refused(short, (ADD_COVERED_COMMITMENT, 0, 1, 30), -30)

    def test_an_eighth_commitment_is_told_before_a_shortage(self):
        short = NEW + [(ADD_COMMITMENT, 99, 0)] * 7
        self.refused(short, (ADD_COVERED_COMMITMENT, 0, 99, 0), -28)


class CancelCommitmentTest(CallsTest):
    THREE = NEW + [(ADD_COMMITMENT, 11, 1), (ADD_COMMITMENT, 12, 2), (ADD_COMMITMENT, 13, 3)]

    def test_returns_how_many_remain(self):
        self.assertEqual(behind(self.THREE, [(CANCEL_COMMITMENT, 0)] * 4), [[2], [1], [0], [-2]])
        self.assertEqual(
            behind(SEVEN_COMMITMENTS, [(CANCEL_COMMITMENT, number) for number in range(6, -1, -1)]),
            [[6], [5], [4], [3], [2], [1], [0]])

    def test_later_numbers_decrease_by_one(self):
        for gone, left in [(0, [12, 2, 13, 3]), (1, [11, 1, 13, 3]), (2, [11, 1, 12, 2])]:
            self.assertEqual(
                behind(self.THREE, [(CANCEL_COMMITMENT, gone), (LIST_COMMITMENTS,), (ADD_COMMITMENT, 14, 4),
                                    (LIST_COMMITMENTS,), (CANCEL_COMMITMENT, 1), (LIST_COMMITMENTS,)]),
                [[2], [2] + left, [2], [3] + left + [14, 4], [2], [2] + left[:2] + [14, 4]])

    def test_leaves_stock_day_and_deliveries(self):
        before = NEW + days(2) + [(ADD_DELIVERY, 9, 1, 7)]
        self.assertEqual(
            behind(before + [(ADD_COMMITMENT, 3, 4), (CANCEL_COMMITMENT, 0)], LOOK_DEEPER),
            behind(before, LOOK_DEEPER))

    def test_refuses_a_number_that_is_not_there(self):
        for before, count in [(NEW, 0), (self.THREE, 3), (SEVEN_COMMITMENTS, 7)]:
            for commitment in [count, count + 1, 4294967288, GREATEST]:
                self.refused(before, (CANCEL_COMMITMENT, commitment), -2)


class ListsTest(unittest.TestCase):
    def test_empty_lists_answer_their_count_alone(self):
        self.assertEqual(behind(NEW, [(LIST_DELIVERIES,), (LIST_COMMITMENTS,)]), [[0], [0]])

    def test_show_every_number_in_the_order_of_adding(self):
        before = NEW + [(ADD_DELIVERY, 99, 3, 30), (ADD_COMMITMENT, 98, 29), (ADD_DELIVERY, 1, 0, 0),
                        (ADD_COMMITMENT, 1, 0), (ADD_DELIVERY, 99, 3, 30), (ADD_COMMITMENT, 98, 29)]
        self.assertEqual(
            behind(before, [(LIST_DELIVERIES,), (LIST_COMMITMENTS,)]),
            [[3, 99, 3, 30, 1, 0, 0, 99, 3, 30], [3, 98, 29, 1, 0, 98, 29]])

    def test_asking_changes_nothing(self):
        before = NEW + [(ADD_DELIVERY, 5, 0, 6), (ADD_COMMITMENT, 7, 8)]
        asked = before + [(LIST_DELIVERIES,), (LIST_COMMITMENTS,), (IS_COVERED, 3)] * 2
        self.assertEqual(behind(asked, LOOK_DEEPER), behind(before, LOOK_DEEPER))


if __name__ == "__main__":
    unittest.main()
