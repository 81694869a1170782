"""surplus, available, earliest_day, first_shortage and summary."""

import unittest

from tests.asking import (
    ADD_COMMITMENT, ADD_COVERED_COMMITMENT, ADD_DELIVERY, AVAILABLE, CANCEL_BEST, CANCEL_COMMITMENT, CREATE,
    DELIVERY_ARRIVED, DELIVERY_FAILED, EARLIEST_DAY, FIRST_SHORTAGE, FULFILL_COMMITMENT, GREATEST, NEXT_DAY, SUMMARY,
    SURPLUS, CallsTest, ask, behind, days, last,
)

NEW = [(CREATE, 10)]
# The surplus is 10 by day 2, 2 by day 4, 22 by day 5, 4 by day 7 and 19 from day 8 on; with one failure it is
# 10, then 2 by day 5, -16 by day 7 and -1 from day 8 on; with more failures 10, 2 by day 5 and -16.
SUPPLIED = NEW + [(ADD_DELIVERY, 20, 2, 5), (ADD_DELIVERY, 15, 1, 8)]
EXAMPLE = SUPPLIED + [(ADD_COMMITMENT, 8, 3), (ADD_COMMITMENT, 18, 6)]
# A shortage of 4 from day 2 to day 5, and plenty from day 6 on.
SHORT_FOR_A_WHILE = [(CREATE, 5), (ADD_COMMITMENT, 9, 2), (ADD_DELIVERY, 20, 0, 6)]
# 40 in all; without the greatest one 25, then 15, 10, 6, 3, and nothing.
SIX = [(CREATE, 0)] + [(ADD_DELIVERY, amount, 0, 4) for amount in [4, 15, 3, 10, 3, 5]]
LEFT_OF_SIX = [40, 25, 15, 10, 6, 3, 0]
RICH = [(CREATE, 999)] + [(ADD_DELIVERY, 99, 0, 30)] * 6
POOR = [(CREATE, 0)] + [(ADD_COMMITMENT, 99, 0)] * 7

WRONG_K_OR_DAY = [(7, 30), (8, 30), (GREATEST, 30), (0, 31), (0, 32), (0, GREATEST), (6, 31), (7, 31),
                  (GREATEST, GREATEST)]


class SurplusTest(CallsTest):
    def test_tells_whether_it_is_sufficient_and_the_three_amounts(self):
        for k, day, expected in [
                (0, 0, [1, 10, 10, 0]), (0, 3, [1, 2, 10, 8]), (0, 4, [1, 2, 10, 8]), (0, 5, [1, 22, 30, 8]),
                (0, 6, [1, 4, 30, 26]), (0, 7, [1, 4, 30, 26]), (0, 8, [1, 19, 45, 26]), (0, 30, [1, 19, 45, 26]),
                (1, 5, [1, 2, 10, 8]), (1, 6, [0, 16, 10, 26]), (1, 8, [0, 1, 25, 26]), (2, 8, [0, 16, 10, 26])]:
            self.tells(EXAMPLE, (SURPLUS, k, day), expected)

    def test_with_0_to_6_failures(self):
        for k in range(7):
            self.assertEqual(last(SIX + [(SURPLUS, k, 4)]), [1, LEFT_OF_SIX[k], LEFT_OF_SIX[k], 0])
            self.assertEqual(last(SIX + [(SURPLUS, k, 3)]), [1, 0, 0, 0])

    def test_with_more_failures_than_deliveries(self):
        for k in range(2, 7):
            self.assertEqual(last(EXAMPLE + [(SURPLUS, k, 30)]), [0, 16, 10, 26])
        for k in range(7):
            self.assertEqual(last(NEW + [(SURPLUS, k, 30)]), [1, 10, 10, 0])

    def test_nothing_over_is_sufficient(self):
        for due, expected in [(9, [1, 1, 10, 9]), (10, [1, 0, 10, 10]), (11, [0, 1, 10, 11])]:
            self.assertEqual(last(NEW + [(ADD_COMMITMENT, due, 3), (SURPLUS, 0, 3)]), expected)

    def test_the_least_and_the_greatest_amounts(self):
        self.assertEqual(last(RICH + [(SURPLUS, 0, 30)]), [1, 1593, 1593, 0])
        self.assertEqual(last(RICH + [(SURPLUS, 6, 30)]), [1, 999, 999, 0])
        self.assertEqual(last(POOR + [(SURPLUS, 0, 0)]), [0, 693, 0, 693])
        self.assertEqual(last([(CREATE, 0), (SURPLUS, 0, 0)]), [1, 0, 0, 0])

    def test_takes_every_day_from_today_to_30(self):
        for today in [0, 4, 19]:
            before = NEW + days(today)
            self.assertEqual(
                behind(before, [(SURPLUS, 0, day) for day in range(today, 31)]), [[1, 10, 10, 0]] * (31 - today))
        self.tells(NEW + days(30), (SURPLUS, 6, 30), [1, 10, 10, 0])

    def test_refuses_a_wrong_k_or_day(self):
        for k, day in WRONG_K_OR_DAY:
            self.refused(EXAMPLE, (SURPLUS, k, day), -22)
        for today, day in [(1, 0), (4, 3), (4, 0), (30, 29), (30, 0), (30, 31)]:
            self.refused(NEW + days(today), (SURPLUS, 0, day), -22)


class AvailableTest(CallsTest):
    def test_is_the_least_surplus_from_the_day_on(self):
        for day in range(31):
            self.tells(EXAMPLE, (AVAILABLE, 0, day), [2] if day < 5 else [4] if day < 8 else [19])

    def test_is_refused_if_a_shortage_is_still_to_come(self):
        for k in range(1, 7):
            for day in [0, 5, 8, 9, 30]:
                self.refused(EXAMPLE, (AVAILABLE, k, day), -33)

    def test_a_shortage_that_is_over_by_the_day_takes_nothing(self):
        for day in range(31):
            if day < 6:
                self.refused(SHORT_FOR_A_WHILE, (AVAILABLE, 0, day), -33)
            else:
                self.tells(SHORT_FOR_A_WHILE, (AVAILABLE, 0, day), [16])

    def test_nothing_available_is_no_error(self):
        self.tells([(CREATE, 0)], (AVAILABLE, 0, 0), [0])
        self.tells(NEW + [(ADD_COMMITMENT, 10, 30)], (AVAILABLE, 6, 7), [0])
        self.refused(NEW + [(ADD_COMMITMENT, 11, 30)], (AVAILABLE, 6, 7), -33)
        self.tells(NEW + [(ADD_COMMITMENT, 10, 3)], (AVAILABLE, 6, 30), [0])

    def test_with_0_to_6_failures(self):
        for k in range(7):
            self.assertEqual(behind(SIX, [(AVAILABLE, k, 3), (AVAILABLE, k, 4)]), [[0], [LEFT_OF_SIX[k]]])
            self.assertEqual(last(NEW + [(AVAILABLE, k, 0)]), [10])

    def test_may_be_greater_than_one_commitment(self):
        self.assertEqual(behind(RICH, [(AVAILABLE, 0, 29), (AVAILABLE, 0, 30), (AVAILABLE, 5, 30)]),
                         [[999], [1593], [1098]])

    def test_takes_today_and_day_30(self):
        for today in [0, 4, 30]:
            before = NEW + days(today)
            self.tells(before, (AVAILABLE, 0, today), [10])
            self.tells(before, (AVAILABLE, 6, 30), [10])

    def test_refuses_a_wrong_k_or_day(self):
        for k, day in WRONG_K_OR_DAY:
            self.refused(SUPPLIED, (AVAILABLE, k, day), -22)
        for today, day in [(1, 0), (4, 3), (4, 0), (30, 29), (30, 0), (30, 31)]:
            self.refused(NEW + days(today), (AVAILABLE, 0, day), -22)

    def test_a_wrong_k_or_day_is_told_before_a_shortage(self):
        for k, day in WRONG_K_OR_DAY:
            self.refused(POOR, (AVAILABLE, k, day), -22)
        self.refused(POOR, (AVAILABLE, 6, 30), -33)
        later = NEW + days(2) + [(ADD_COMMITMENT, 99, 2)]
        self.refused(later, (AVAILABLE, 0, 1), -22)
        self.refused(later, (AVAILABLE, 0, 2), -33)


class EarliestDayTest(CallsTest):
    def test_is_the_first_day_on_which_so_much_is_available(self):
        for amount, day in [(1, 0), (2, 0), (3, 5), (4, 5), (5, 8), (18, 8), (19, 8)]:
            self.tells(EXAMPLE, (EARLIEST_DAY, 0, amount), [day])

    def test_is_refused_if_no_day_has_so_much(self):
        for k, amount in [(0, 20), (0, 99), (0, 100), (0, GREATEST), (1, 1), (6, 1)]:
            self.refused(EXAMPLE, (EARLIEST_DAY, k, amount), -33)
        self.refused([(CREATE, 0)], (EARLIEST_DAY, 0, 1), -33)

    def test_a_later_shortage_counts_and_an_earlier_one_does_not(self):
        self.tells(SHORT_FOR_A_WHILE, (EARLIEST_DAY, 0, 1), [6])
        self.tells(SHORT_FOR_A_WHILE, (EARLIEST_DAY, 0, 16), [6])
        self.refused(SHORT_FOR_A_WHILE, (EARLIEST_DAY, 0, 17), -33)
        self.refused(SHORT_FOR_A_WHILE, (EARLIEST_DAY, 1, 1), -33)

    def test_takes_amounts_that_are_greater_than_99(self):
        self.assertEqual(
            behind(RICH, [(EARLIEST_DAY, 0, amount) for amount in [99, 100, 999, 1000, 1593, 1594, GREATEST]]),
            [[0], [0], [0], [30], [30], [-33], [-33]])
        self.assertEqual(behind(RICH, [(EARLIEST_DAY, 6, 999), (EARLIEST_DAY, 6, 1000)]), [[0], [-33]])

    def test_with_0_to_6_failures(self):
        for k in range(6):
            self.assertEqual(
                behind(SIX, [(EARLIEST_DAY, k, LEFT_OF_SIX[k]), (EARLIEST_DAY, k, LEFT_OF_SIX[k] + 1)]), [[4], [-33]])
        self.assertEqual(last(SIX + [(EARLIEST_DAY, 6, 1)]), [-33])

    def test_is_never_before_today(self):
        for today in [1, 4, 30]:
            self.tells(NEW + days(today), (EARLIEST_DAY, 0, 10), [today])
        late = NEW + days(4) + [(ADD_DELIVERY, 3, 0, 4), (ADD_DELIVERY, 5, 0, 30)]
        self.assertEqual(behind(late, [(EARLIEST_DAY, 0, 13), (EARLIEST_DAY, 0, 14), (EARLIEST_DAY, 0, 18)]),
                         [[4], [30], [30]])

    def test_refuses_a_wrong_k_or_nothing(self):
        for before in [EXAMPLE, POOR, RICH]:
            for k, amount in [(7, 1), (8, 99), (GREATEST, 1), (0, 0), (6, 0), (7, 0), (GREATEST, GREATEST)]:
                self.refused(before, (EARLIEST_DAY, k, amount), -22)


class FirstShortageTest(CallsTest):
    def test_tells_the_first_short_day_and_by_how_much(self):
        self.tells(EXAMPLE, (FIRST_SHORTAGE, 1), [6, 16])
        self.tells(SHORT_FOR_A_WHILE, (FIRST_SHORTAGE, 0), [2, 4])

    def test_the_first_one_need_not_be_the_greatest(self):
        before = NEW + [(ADD_COMMITMENT, 50, 9), (ADD_COMMITMENT, 12, 2), (ADD_COMMITMENT, 1, 1)]
        self.tells(before, (FIRST_SHORTAGE, 0), [2, 3])

    def test_is_refused_if_all_is_covered(self):
        self.refused(EXAMPLE, (FIRST_SHORTAGE, 0), -33)
        for k in range(7):
            self.refused(NEW, (FIRST_SHORTAGE, k), -33)
            self.refused(NEW + [(ADD_COMMITMENT, 10, 0)], (FIRST_SHORTAGE, k), -33)

    def test_with_0_to_6_failures(self):
        before = SIX + [(ADD_COMMITMENT, 12, 7)]
        for k in range(7):
            short = 12 - LEFT_OF_SIX[k]
            self.assertEqual(last(before + [(FIRST_SHORTAGE, k)]), [7, short] if short > 0 else [-33])

    def test_with_more_failures_than_deliveries(self):
        for k in range(2, 7):
            self.tells(EXAMPLE, (FIRST_SHORTAGE, k), [6, 16])

    def test_on_today_and_on_day_30(self):
        for today in [0, 4, 30]:
            before = NEW + days(today)
            self.assertEqual(last(before + [(ADD_COMMITMENT, 99, today), (FIRST_SHORTAGE, 0)]), [today, 89])
            self.assertEqual(last(before + [(ADD_COMMITMENT, 11, 30), (FIRST_SHORTAGE, 6)]), [30, 1])
        self.assertEqual(last(POOR + [(FIRST_SHORTAGE, 0)]), [0, 693])

    def test_refuses_more_than_6_failures(self):
        for before in [EXAMPLE, NEW, POOR]:
            for k in [7, 8, 4294967289, GREATEST]:
                self.refused(before, (FIRST_SHORTAGE, k), -22)


class SummaryTest(CallsTest):
    def test_tells_seven_numbers(self):
        self.tells([(CREATE, 0)], (SUMMARY,), [0, 0, 0, 0, 0, 0, 0])
        self.tells([(CREATE, 999)] + days(30), (SUMMARY,), [30, 999, 0, 0, 0, 0, 0])
        self.tells(EXAMPLE, (SUMMARY,), [0, 10, 2, 2, 0, 0, 0])
        self.tells(RICH + [(ADD_COMMITMENT, 1, 30)] * 7, (SUMMARY,), [0, 999, 6, 7, 0, 0, 0])

    def test_counts_what_has_happened(self):
        before = NEW + [(ADD_DELIVERY, 5, number, 9) for number in range(5)]
        before += [(ADD_COMMITMENT, 4, 9) for number in range(6)]
        happened = [
            ((DELIVERY_ARRIVED, 0), [0, 15, 4, 6, 1, 0, 0]), ((DELIVERY_FAILED, 3), [0, 15, 3, 6, 1, 1, 0]),
            ((FULFILL_COMMITMENT, 5), [0, 11, 3, 5, 1, 1, 1]), ((NEXT_DAY,), [1, 11, 3, 5, 1, 1, 1]),
            ((DELIVERY_ARRIVED, 0), [1, 16, 2, 5, 2, 1, 1]), ((CANCEL_COMMITMENT, 0), [1, 16, 2, 4, 2, 1, 1]),
            ((FULFILL_COMMITMENT, 0), [1, 12, 2, 3, 2, 1, 2]), ((FULFILL_COMMITMENT, 0), [1, 8, 2, 2, 2, 1, 3]),
            ((DELIVERY_FAILED, 0), [1, 8, 1, 2, 2, 2, 3]), ((DELIVERY_FAILED, 0), [1, 8, 0, 2, 2, 3, 3]),
            ((ADD_COMMITMENT, 99, 1), [1, 8, 0, 3, 2, 3, 3]), ((CANCEL_BEST, 0), [1, 8, 0, 2, 2, 3, 3])]
        calls = []
        for call, expected in happened:
            calls.append(call)
            self.tells(before + calls, (SUMMARY,), expected)

    def test_what_is_refused_is_not_counted(self):
        before = [(CREATE, 3), (ADD_DELIVERY, 5, 1, 9), (ADD_COMMITMENT, 4, 9)]
        for call in [(DELIVERY_ARRIVED, 0), (DELIVERY_ARRIVED, 1), (DELIVERY_FAILED, 1), (FULFILL_COMMITMENT, 0),
                     (FULFILL_COMMITMENT, 1), (ADD_COVERED_COMMITMENT, 0, 4, 0), (CREATE, 1000)]:
            self.assertLess(last(before + [call])[0], 0)
            self.assertEqual(last(before + [call, (SUMMARY,)]), [0, 3, 1, 1, 0, 0, 0])

    def test_a_new_instance_counts_from_0(self):
        before = NEW + [(ADD_DELIVERY, 5, 0, 9), (ADD_DELIVERY, 5, 0, 9), (ADD_COMMITMENT, 4, 9), (DELIVERY_ARRIVED, 0),
                        (DELIVERY_FAILED, 0), (FULFILL_COMMITMENT, 0), (NEXT_DAY,)]
        self.assertEqual(last(before + [(SUMMARY,)]), [1, 11, 0, 0, 1, 1, 1])
        self.assertEqual(last(before + [(CREATE, 7), (SUMMARY,)]), [0, 7, 0, 0, 0, 0, 0])
        self.assertEqual(last(before + [(CREATE, 1000), (SUMMARY,)]), [1, 11, 0, 0, 1, 1, 1])
        self.assertEqual(
            last(before + [(CREATE, 7), (ADD_DELIVERY, 5, 0, 9), (DELIVERY_ARRIVED, 0), (SUMMARY,)]),
            [0, 12, 0, 0, 1, 0, 0])

    def test_is_one_answer_of_seven_numbers(self):
        self.assertEqual(ask([(CREATE, 3), (SUMMARY,), (SUMMARY,)]), [[0]] + [[0, 3, 0, 0, 0, 0, 0]] * 2)


if __name__ == "__main__":
    unittest.main()
