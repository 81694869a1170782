"""best_cancellation and cancel_best."""

import unittest

from tests.asking import (
    ADD_COMMITMENT, ADD_DELIVERY, BEST_CANCELLATION, CANCEL_BEST, CREATE, GREATEST, IS_COVERED, LIST_COMMITMENTS,
    LIST_DELIVERIES, SUMMARY, CallsTest, Numbers, behind, days, last,
)
from tests.instances import calls_for, some_instance, some_past
from tests.reckoning import best_cancellation, without

EXAMPLE = [(CREATE, 10), (ADD_DELIVERY, 20, 2, 5), (ADD_DELIVERY, 15, 1, 8), (ADD_COMMITMENT, 8, 3),
           (ADD_COMMITMENT, 18, 6)]


def committed(stock, amounts):
    """An instance whose commitments are all due on day 9."""
    return [(CREATE, stock)] + [(ADD_COMMITMENT, amount, 9) for amount in amounts]


class CancellationTest(CallsTest):
    def cancels(self, before, k, members):
        """Both calls mean these commitments; the first changes nothing, the second takes them out alone."""
        self.tells(before, (BEST_CANCELLATION, k), [len(members)] + members)
        look = [(LIST_COMMITMENTS,), (LIST_DELIVERIES,), (SUMMARY,)]
        commitments, deliveries, summary = behind(before, look)
        pairs = [tuple(commitments[1 + 2 * number:3 + 2 * number]) for number in range(commitments[0])]
        left = without(pairs, members)
        self.assertEqual(
            behind(before, [(CANCEL_BEST, k)] + look + [(IS_COVERED, k), (CANCEL_BEST, k), (BEST_CANCELLATION, k)]),
            [[len(members)], [len(left)] + [one for pair in left for one in pair], deliveries,
             summary[:3] + [len(left)] + summary[4:], [1], [0], [0]], before)


class BestCancellationTest(CancellationTest):
    def test_nothing_is_cancelled_if_all_is_covered(self):
        for k in range(7):
            self.cancels([(CREATE, 0)], k, [])
            self.cancels(committed(10, [1, 2, 3, 4]), k, [])
        self.cancels(EXAMPLE, 0, [])

    def test_the_documents_example(self):
        self.cancels(EXAMPLE, 1, [1])

    def test_the_smallest_set_comes_before_the_smallest_total(self):
        self.cancels(committed(12, [12, 5, 5]), 0, [0])
        self.cancels(committed(12, [5, 12, 5]), 0, [1])
        self.cancels(committed(12, [5, 5, 12]), 0, [2])

    def test_of_as_many_the_smaller_total(self):
        self.cancels(committed(10, [9, 4]), 0, [1])
        self.cancels(committed(10, [4, 9]), 0, [0])
        # Three must go, since two are 17 at the most; only 8, 6 and 5 are 19 in all and no more.
        self.cancels(committed(16, [9, 8, 7, 6, 5]), 0, [1, 3, 4])

    def test_of_as_much_the_smaller_set_number(self):
        self.cancels(committed(10, [6, 6, 6]), 0, [0, 1])
        self.cancels(committed(10, [10, 10, 10, 10, 10, 10, 10]), 0, [0, 1, 2, 3, 4, 5])
        # 1 and 2 are set 6, 0 and 3 are set 9; each pair is 5 in all.
        self.cancels(committed(5, [1, 2, 3, 4]), 0, [1, 2])
        # 2 and 3 are set 12, 1 and 4 set 18, 0 and 5 set 33, each with a total of 13; a total of 12 is too little.
        self.cancels(committed(26, [3, 5, 6, 7, 8, 10]), 0, [2, 3])

    def test_of_7_commitments_all(self):
        for k in range(7):
            self.cancels(committed(0, [1, 2, 3, 4, 5, 6, 7]), k, [0, 1, 2, 3, 4, 5, 6])
            self.cancels([(CREATE, 0)] + [(ADD_COMMITMENT, 99, day) for day in [30, 0, 5, 0, 30, 9, 1]], k,
                         [0, 1, 2, 3, 4, 5, 6])

    def test_of_7_commitments_the_last(self):
        self.cancels(committed(99, [10, 10, 10, 10, 10, 10, 40]), 0, [0])
        self.cancels(committed(99, [1, 1, 1, 1, 1, 1, 94]), 0, [0])
        self.cancels(committed(60, [10, 10, 10, 10, 10, 10, 40]), 0, [6])

    def test_every_day_must_be_covered(self):
        # One is too much on day 2, and of the other two one on day 7.
        before = [(CREATE, 5), (ADD_COMMITMENT, 6, 2), (ADD_COMMITMENT, 3, 7), (ADD_COMMITMENT, 4, 7)]
        self.cancels(before, 0, [0, 1])
        # The early one alone is short, but only until day 6.
        self.cancels([(CREATE, 5), (ADD_DELIVERY, 20, 0, 6), (ADD_COMMITMENT, 1, 8), (ADD_COMMITMENT, 9, 2)], 0, [1])

    def test_an_early_one_may_save_a_late_one(self):
        self.cancels([(CREATE, 10), (ADD_COMMITMENT, 4, 30), (ADD_COMMITMENT, 9, 0)], 0, [0])
        self.cancels([(CREATE, 10), (ADD_COMMITMENT, 9, 30), (ADD_COMMITMENT, 4, 0)], 0, [1])

    def test_with_0_to_6_failures(self):
        # Of 6 deliveries with 10 each, one more fails each time, and so one commitment more can't be held.
        before = [(CREATE, 10)] + [(ADD_DELIVERY, 10, 0, 4)] * 6 + [(ADD_COMMITMENT, 10, 4)] * 7
        for k in range(7):
            self.cancels(before, k, list(range(k)))

    def test_with_more_failures_than_deliveries(self):
        for k in range(2, 7):
            self.cancels(EXAMPLE, k, [1])

    def test_on_later_days(self):
        for today in [4, 30]:
            before = [(CREATE, 10)] + days(today) + [(ADD_COMMITMENT, 6, today), (ADD_COMMITMENT, 5, 30)]
            self.cancels(before, 6, [1])

    def test_refuses_more_than_6_failures(self):
        for before in [EXAMPLE, [(CREATE, 0)], committed(0, [99] * 7)]:
            for call in [BEST_CANCELLATION, CANCEL_BEST]:
                for k in [7, 8, 4294967289, GREATEST - 1, GREATEST]:
                    self.refused(before, (call, k), -22)


class EverySetTest(CancellationTest):
    """Point 4: the two calls against a reckoning over every set of commitments."""

    def test_new_instances(self):
        sizes = {}
        for seed in range(150):
            numbers = Numbers(seed + 9000)
            stock, deliveries, commitments = some_instance(numbers)
            for k in [0, 1, numbers.between(2, 6)]:
                members = best_cancellation(0, stock, deliveries, commitments, k)
                self.cancels(calls_for(stock, deliveries, commitments), k, members)
                sizes[len(members)] = sizes.get(len(members), 0) + 1
        self.assertEqual(sorted(sizes), [0, 1, 2, 3, 4, 5, 6, 7])

    def test_7_commitments_with_many_ties(self):
        for seed in range(150):
            numbers = Numbers(seed + 11000)
            greatest = numbers.between(1, 4)
            commitments = [(numbers.between(1, greatest), numbers.between(0, 3)) for count in range(7)]
            deliveries = [(numbers.between(1, 4), 0, numbers.between(0, 3)) for count in range(3)]
            stock = numbers.below(8)
            for k in [0, 1]:
                members = best_cancellation(0, stock, deliveries, commitments, k)
                self.cancels(calls_for(stock, deliveries, commitments), k, members)

    def test_along_runs_of_events(self):
        for seed in range(150):
            calls, reckoning = some_past(seed + 13000)
            for k in [0, 1, 3]:
                result = reckoning.best_cancellation(k)
                self.assertEqual(last(calls + [(BEST_CANCELLATION, k)]), result, calls)
                self.assertEqual(last(calls + [(CANCEL_BEST, k)]), result[:1], calls)


if __name__ == "__main__":
    unittest.main()
