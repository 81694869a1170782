"""tolerance, safe_commitments, dependent_commitments, is_covered_with_delivery and tolerance_with_commitment."""

import unittest

from tests.asking import (
    ADD_COMMITMENT, ADD_DELIVERY, CREATE, DEPENDENT_COMMITMENTS, GREATEST, IS_COVERED, IS_COVERED_WITH_DELIVERY,
    SAFE_COMMITMENTS, TOLERANCE, TOLERANCE_WITH_COMMITMENT, CallsTest, behind, days, last,
)

NEW = [(CREATE, 10)]
EXAMPLE = NEW + [(ADD_DELIVERY, 20, 2, 5), (ADD_DELIVERY, 15, 1, 8), (ADD_COMMITMENT, 8, 3), (ADD_COMMITMENT, 18, 6)]
# 40 in all; without the greatest one 25, then 15, 10, 6, 3, and nothing.
SIX = [(CREATE, 0)] + [(ADD_DELIVERY, amount, 0, 4) for amount in [4, 15, 3, 10, 3, 5]]
LEFT_OF_SIX = [40, 25, 15, 10, 6, 3, 0]
SEVEN = [(CREATE, 99)] + [(ADD_COMMITMENT, number + 1, 30) for number in range(7)]
WRONG_NUMBERS = [4294967289, 4294967290, GREATEST - 1, GREATEST]


class ToleranceTest(CallsTest):
    def test_is_the_greatest_number_of_failures_that_is_covered(self):
        self.tells(EXAMPLE, (TOLERANCE,), [0])
        for k in range(6):
            self.tells(SIX + [(ADD_COMMITMENT, LEFT_OF_SIX[k], 30)], (TOLERANCE,), [k])
            below = [k - 1] if k > 0 else [-33]
            self.assertEqual(last(SIX + [(ADD_COMMITMENT, LEFT_OF_SIX[k] + 1, 30), (TOLERANCE,)]), below)

    def test_is_at_most_the_number_of_deliveries(self):
        for count in range(7):
            self.tells(NEW + [(ADD_DELIVERY, 9, 0, 30)] * count, (TOLERANCE,), [count])
            self.tells(NEW + [(ADD_DELIVERY, 9, 0, 30)] * count + [(ADD_COMMITMENT, 10, 0)], (TOLERANCE,), [count])

    def test_is_refused_if_not_even_0_is_covered(self):
        for count in range(7):
            before = NEW + [(ADD_DELIVERY, 9, 0, 30)] * count + [(ADD_COMMITMENT, 11, 29)]
            self.refused(before, (TOLERANCE,), -33)
        self.refused([(CREATE, 0)] + [(ADD_COMMITMENT, 99, 0)] * 7, (TOLERANCE,), -33)

    def test_on_day_30(self):
        late = NEW + days(30) + [(ADD_DELIVERY, 5, 0, 30), (ADD_DELIVERY, 5, 30, 30)]
        self.tells(late, (TOLERANCE,), [2])
        self.tells(late + [(ADD_COMMITMENT, 15, 30)], (TOLERANCE,), [1])
        self.tells(late + [(ADD_COMMITMENT, 20, 30)], (TOLERANCE,), [0])
        self.refused(late + [(ADD_COMMITMENT, 21, 30)], (TOLERANCE,), -33)


class SafeCommitmentsTest(CallsTest):
    def test_are_those_due_before_the_first_shortage(self):
        self.tells(EXAMPLE, (SAFE_COMMITMENTS, 0), [2, 0, 1])
        self.tells(EXAMPLE, (SAFE_COMMITMENTS, 1), [1, 0])

    def test_without_commitments(self):
        for k in range(7):
            self.tells(SIX, (SAFE_COMMITMENTS, k), [0])

    def test_one_that_is_due_behind_a_shortage_is_not_safe(self):
        # The shortage of day 2 is over from day 6 on.
        before = [(CREATE, 5), (ADD_DELIVERY, 20, 0, 6), (ADD_COMMITMENT, 1, 8), (ADD_COMMITMENT, 9, 2),
                  (ADD_COMMITMENT, 1, 1), (ADD_COMMITMENT, 1, 2), (ADD_COMMITMENT, 1, 0), (ADD_COMMITMENT, 1, 30)]
        self.tells(before, (SAFE_COMMITMENTS, 0), [2, 2, 4])

    def test_come_in_increasing_order_not_by_day(self):
        before = NEW + [(ADD_COMMITMENT, 1, day) for day in [7, 3, 9, 0, 30, 4, 8]] + [(ADD_DELIVERY, 1, 0, 30)]
        self.tells(before, (SAFE_COMMITMENTS, 6), [7, 0, 1, 2, 3, 4, 5, 6])

    def test_with_0_to_6_failures(self):
        # Due by day 4: 12. The commitment of day 3 is covered by nothing but the stock.
        before = [(CREATE, 1)] + SIX[1:] + [(ADD_COMMITMENT, 11, 4), (ADD_COMMITMENT, 1, 3)]
        for k in range(7):
            self.assertEqual(last(before + [(SAFE_COMMITMENTS, k)]), [2, 0, 1] if LEFT_OF_SIX[k] >= 11 else [1, 1])

    def test_with_more_failures_than_deliveries(self):
        for k in range(2, 7):
            self.tells(EXAMPLE, (SAFE_COMMITMENTS, k), [1, 0])

    def test_to_the_last_unit_on_today_and_day_30(self):
        for today in [0, 4, 30]:
            for day in [today, 30]:
                before = NEW + days(today)
                self.tells(before + [(ADD_COMMITMENT, 10, day)], (SAFE_COMMITMENTS, 0), [1, 0])
                self.tells(before + [(ADD_COMMITMENT, 11, day)], (SAFE_COMMITMENTS, 0), [0])

    def test_refuses_more_than_6_failures(self):
        for before in [EXAMPLE, NEW, SEVEN]:
            for k in [7, 8] + WRONG_NUMBERS:
                self.refused(before, (SAFE_COMMITMENTS, k), -22)


class DependentCommitmentsTest(CallsTest):
    def test_are_safe_now_and_would_not_be_without_the_delivery(self):
        self.tells(EXAMPLE, (DEPENDENT_COMMITMENTS, 0), [1, 1])
        self.tells(EXAMPLE, (DEPENDENT_COMMITMENTS, 1), [0])
        self.tells(EXAMPLE + [(ADD_COMMITMENT, 5, 8)], (DEPENDENT_COMMITMENTS, 1), [1, 2])
        self.tells(EXAMPLE + [(ADD_COMMITMENT, 5, 8)], (DEPENDENT_COMMITMENTS, 0), [2, 1, 2])

    def test_one_that_is_not_safe_now_is_not_among_them(self):
        before = NEW + [(ADD_DELIVERY, 20, 2, 5), (ADD_COMMITMENT, 30, 5), (ADD_COMMITMENT, 1, 6)]
        self.tells(before, (DEPENDENT_COMMITMENTS, 0), [1, 0])

    def test_those_of_later_days_depend_too(self):
        before = NEW + [(ADD_DELIVERY, 20, 2, 5), (ADD_DELIVERY, 90, 2, 9), (ADD_COMMITMENT, 1, 12),
                        (ADD_COMMITMENT, 11, 5), (ADD_COMMITMENT, 9, 2)]
        self.tells(before, (DEPENDENT_COMMITMENTS, 0), [2, 0, 1])
        self.tells(before, (DEPENDENT_COMMITMENTS, 1), [0])

    def test_none_depends_while_another_delivery_makes_up_for_it(self):
        before = [(CREATE, 0)] + [(ADD_DELIVERY, 5, 0, 4)] * 2
        for delivery in [0, 1]:
            self.tells(before + [(ADD_COMMITMENT, 5, 4)], (DEPENDENT_COMMITMENTS, delivery), [0])
            self.tells(before + [(ADD_COMMITMENT, 6, 4)], (DEPENDENT_COMMITMENTS, delivery), [1, 0])

    def test_each_of_6_deliveries_and_7_commitments(self):
        before = [(CREATE, 0)] + [(ADD_DELIVERY, 1, 0, 5 * number + 5) for number in range(6)]
        before += [(ADD_COMMITMENT, 1, 5 * number + 5) for number in range(6)]
        for number in range(6):
            dependent = list(range(number, 6))
            self.tells(before, (DEPENDENT_COMMITMENTS, number), [len(dependent)] + dependent)
        all_at_once = [(CREATE, 0)] + [(ADD_DELIVERY, 3, 0, 30)] * 6 + [(ADD_COMMITMENT, 2, 30)] * 7
        self.tells(all_at_once, (DEPENDENT_COMMITMENTS, 5), [0])
        self.tells(all_at_once[:6] + all_at_once[7:], (DEPENDENT_COMMITMENTS, 4), [7, 0, 1, 2, 3, 4, 5, 6])

    def test_on_day_30(self):
        before = [(CREATE, 0)] + days(30) + [(ADD_DELIVERY, 5, 0, 30), (ADD_COMMITMENT, 5, 30)]
        self.tells(before, (DEPENDENT_COMMITMENTS, 0), [1, 0])

    def test_refuses_a_number_that_is_not_there(self):
        for before, count in [(NEW, 0), (EXAMPLE, 2), (SIX, 6), (SEVEN, 0)]:
            for delivery in [count, count + 1] + WRONG_NUMBERS:
                self.refused(before, (DEPENDENT_COMMITMENTS, delivery), -2)


class IsCoveredWithDeliveryTest(CallsTest):
    SHORT = [(CREATE, 0), (ADD_COMMITMENT, 5, 3)]

    def test_it_counts_from_its_latest_day(self):
        for latest in [0, 2, 3]:
            self.tells(self.SHORT, (IS_COVERED_WITH_DELIVERY, 5, latest, 0), [1])
            self.tells(self.SHORT, (IS_COVERED_WITH_DELIVERY, 4, latest, 0), [0])
        for latest in [4, 30]:
            self.tells(self.SHORT, (IS_COVERED_WITH_DELIVERY, 99, latest, 0), [0])

    def test_it_may_fail_like_every_other(self):
        for k in range(1, 7):
            self.tells(self.SHORT, (IS_COVERED_WITH_DELIVERY, 99, 3, k), [0])
        other = self.SHORT + [(ADD_DELIVERY, 5, 0, 3)]
        self.tells(other, (IS_COVERED_WITH_DELIVERY, 5, 3, 1), [1])
        self.tells(other, (IS_COVERED_WITH_DELIVERY, 4, 3, 1), [0])
        self.tells(other, (IS_COVERED_WITH_DELIVERY, 99, 3, 1), [1])
        self.tells(other, (IS_COVERED_WITH_DELIVERY, 99, 3, 2), [0])

    def test_with_0_to_6_failures(self):
        five = SIX[:1] + SIX[2:]
        for k in range(6):
            enough = five + [(ADD_COMMITMENT, LEFT_OF_SIX[k], 4)]
            self.assertEqual(
                behind(enough, [(IS_COVERED_WITH_DELIVERY, 4, 4, failing) for failing in range(7)]),
                [[1]] * (k + 1) + [[0]] * (6 - k))
        self.tells(five, (IS_COVERED_WITH_DELIVERY, 4, 4, 6), [1])

    def test_what_is_covered_stays_so(self):
        for k in range(7):
            self.tells(NEW + [(ADD_COMMITMENT, 10, 0)], (IS_COVERED_WITH_DELIVERY, 1, 30, k), [1])

    def test_takes_the_edges_of_each_range(self):
        for today in [0, 4, 30]:
            before = [(CREATE, 0)] + days(today) + [(ADD_COMMITMENT, 1, today)]
            for k, result in [(0, 1), (6, 0)]:
                self.tells(before, (IS_COVERED_WITH_DELIVERY, 1, today, k), [result])
                self.tells(before, (IS_COVERED_WITH_DELIVERY, 99, today, k), [result])
            self.tells(before, (IS_COVERED_WITH_DELIVERY, 99, 30, 0), [1 if today == 30 else 0])

    def test_the_delivery_is_not_added(self):
        self.assertEqual(
            behind(self.SHORT, [(IS_COVERED_WITH_DELIVERY, 5, 3, 0), (IS_COVERED, 0), (TOLERANCE,)]), [[1], [0], [-33]])

    def test_refuses_a_wrong_number(self):
        before = NEW + days(4)
        for amount, latest, k in [(0, 9, 0), (100, 9, 0), (GREATEST, 9, 0), (1, 3, 0), (1, 0, 0), (1, 31, 0),
                                  (1, GREATEST, 0), (1, 9, 7), (1, 9, GREATEST), (GREATEST, GREATEST, GREATEST)]:
            self.refused(before, (IS_COVERED_WITH_DELIVERY, amount, latest, k), -22)

    def test_refuses_a_seventh_delivery(self):
        self.refused(SIX, (IS_COVERED_WITH_DELIVERY, 1, 30, 0), -28)
        self.refused(SIX, (IS_COVERED_WITH_DELIVERY, 99, 0, 6), -28)

    def test_a_wrong_number_is_told_before_a_seventh_delivery(self):
        for amount, latest, k in [(0, 9, 0), (100, 9, 0), (1, 31, 0), (1, 9, 7), (1, 9, GREATEST), (1, GREATEST, 6)]:
            self.refused(SIX, (IS_COVERED_WITH_DELIVERY, amount, latest, k), -22)
        later = NEW + [(ADD_DELIVERY, 1, 0, 30)] * 6 + days(3)
        self.refused(later, (IS_COVERED_WITH_DELIVERY, 1, 2, 0), -22)
        self.refused(later, (IS_COVERED_WITH_DELIVERY, 1, 3, 0), -28)


class ToleranceWithCommitmentTest(CallsTest):
    def test_is_the_tolerance_behind_the_commitment(self):
        for k in range(6):
            self.tells(SIX, (TOLERANCE_WITH_COMMITMENT, LEFT_OF_SIX[k], 4), [k])
            if k > 0:
                self.tells(SIX, (TOLERANCE_WITH_COMMITMENT, LEFT_OF_SIX[k] + 1, 30), [k - 1])
        self.tells([(CREATE, 99)] + SIX[1:], (TOLERANCE_WITH_COMMITMENT, 99, 0), [6])

    def test_counts_the_commitments_that_are_there(self):
        self.tells(SIX + [(ADD_COMMITMENT, 10, 9)], (TOLERANCE_WITH_COMMITMENT, 5, 4), [2])
        self.tells(EXAMPLE, (TOLERANCE_WITH_COMMITMENT, 2, 0), [0])
        self.refused(EXAMPLE, (TOLERANCE_WITH_COMMITMENT, 3, 0), -33)
        self.tells(EXAMPLE, (TOLERANCE_WITH_COMMITMENT, 19, 8), [0])
        self.refused(EXAMPLE, (TOLERANCE_WITH_COMMITMENT, 20, 8), -33)

    def test_is_refused_if_not_even_0_would_be_covered(self):
        self.refused(NEW, (TOLERANCE_WITH_COMMITMENT, 11, 30), -33)
        self.refused(SIX, (TOLERANCE_WITH_COMMITMENT, 41, 30), -33)
        self.refused(SIX, (TOLERANCE_WITH_COMMITMENT, 1, 3), -33)
        self.refused([(CREATE, 0), (ADD_COMMITMENT, 1, 0)], (TOLERANCE_WITH_COMMITMENT, 1, 30), -33)

    def test_the_commitment_is_not_added(self):
        self.assertEqual(
            behind(SIX, [(TOLERANCE,), (TOLERANCE_WITH_COMMITMENT, 40, 4), (TOLERANCE_WITH_COMMITMENT, 41, 4),
                         (TOLERANCE,)]),
            [[6], [0], [-33], [6]])

    def test_takes_the_edges_of_each_range(self):
        for today in [0, 4, 30]:
            before = [(CREATE, 99)] + days(today)
            for amount in [1, 99]:
                for due in [today, 30]:
                    self.tells(before, (TOLERANCE_WITH_COMMITMENT, amount, due), [0])
        self.tells(SEVEN[:-1], (TOLERANCE_WITH_COMMITMENT, 78, 30), [0])

    def test_refuses_a_wrong_number(self):
        before = NEW + days(4)
        for amount, due in [(0, 9), (100, 9), (GREATEST, 9), (1, 3), (1, 0), (1, 31), (1, GREATEST),
                            (GREATEST, GREATEST)]:
            self.refused(before, (TOLERANCE_WITH_COMMITMENT, amount, due), -22)

    def test_refuses_an_eighth_commitment(self):
        self.refused(SEVEN, (TOLERANCE_WITH_COMMITMENT, 1, 30), -28)

    def test_errors_come_in_their_order(self):
        short = NEW + [(ADD_COMMITMENT, 99, 30)] * 7
        for amount, due in [(0, 30), (100, 30), (1, 31), (GREATEST, 0), (1, GREATEST)]:
            self.refused(short, (TOLERANCE_WITH_COMMITMENT, amount, due), -22)
        self.refused(short, (TOLERANCE_WITH_COMMITMENT, 1, 30), -28)
        self.refused(short[:-1], (TOLERANCE_WITH_COMMITMENT, 100, 30), -22)
        self.refused(short[:-1], (TOLERANCE_WITH_COMMITMENT, 1, 30), -33)
        self.refused(short + days(2), (TOLERANCE_WITH_COMMITMENT, 1, 1), -22)


if __name__ == "__main__":
    unittest.main()
