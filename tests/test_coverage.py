"""is_covered, and the document's point 1 on many instances."""

import unittest

from tests.asking import (
    ADD_COMMITMENT, ADD_COVERED_COMMITMENT, ADD_DELIVERY, CREATE, GREATEST, IS_COVERED, LIST_COMMITMENTS, LOOK_DEEPER,
    Numbers, behind, covered_for_each, days,
)
from tests.instances import calls_for, some_instance
from tests.reckoning import covered_whichever_fail


class IsCoveredTest(unittest.TestCase):
    def covered(self, before):
        return [int(covered) for covered in covered_for_each(before)]

    def test_nothing_committed_is_covered(self):
        self.assertEqual(self.covered([(CREATE, 0)]), [1] * 7)
        self.assertEqual(self.covered([(CREATE, 0)] + [(ADD_DELIVERY, 9, 0, 3)] * 6), [1] * 7)

    def test_stock_covers_to_the_last_unit(self):
        for day in [0, 13, 30]:
            self.assertEqual(self.covered([(CREATE, 10), (ADD_COMMITMENT, 10, day)]), [1] * 7)
            self.assertEqual(self.covered([(CREATE, 10), (ADD_COMMITMENT, 11, day)]), [0] * 7)

    def test_a_delivery_counts_from_its_latest_day(self):
        supplied = [(CREATE, 0), (ADD_DELIVERY, 5, 2, 8)]
        self.assertEqual(self.covered(supplied + [(ADD_COMMITMENT, 5, 7)]), [0] * 7)
        self.assertEqual(self.covered(supplied + [(ADD_COMMITMENT, 5, 8)]), [1] + [0] * 6)
        self.assertEqual(self.covered(supplied + [(ADD_COMMITMENT, 5, 9)]), [1] + [0] * 6)

    def test_on_days_0_and_30(self):
        self.assertEqual(self.covered([(CREATE, 0), (ADD_DELIVERY, 5, 0, 0), (ADD_COMMITMENT, 5, 0)]), [1] + [0] * 6)
        self.assertEqual(self.covered([(CREATE, 0), (ADD_DELIVERY, 5, 0, 30), (ADD_COMMITMENT, 5, 30)]), [1] + [0] * 6)
        late = [(CREATE, 0)] + days(30) + [(ADD_DELIVERY, 5, 0, 30)]
        self.assertEqual(self.covered(late + [(ADD_COMMITMENT, 5, 30)]), [1] + [0] * 6)
        self.assertEqual(self.covered(late + [(ADD_COMMITMENT, 6, 30)]), [0] * 7)

    def test_the_greatest_deliveries_fail(self):
        # 40 in all; without the greatest one 25, then 15, 10, 6, 3, and nothing.
        amounts = [4, 15, 3, 10, 3, 5]
        supplied = [(CREATE, 0)] + [(ADD_DELIVERY, amount, 0, 4) for amount in amounts]
        for due, most in [(40, 0), (25, 1), (15, 2), (10, 3), (6, 4), (3, 5)]:
            self.assertEqual(self.covered(supplied + [(ADD_COMMITMENT, due, 4)]), [1] * (most + 1) + [0] * (6 - most))
            self.assertEqual(self.covered(supplied + [(ADD_COMMITMENT, due + 1, 4)]), [1] * most + [0] * (7 - most))

    def test_the_failing_ones_differ_from_day_to_day(self):
        # One failure costs 5 by day 3, but 9 by day 6.
        supplied = [(CREATE, 0), (ADD_DELIVERY, 5, 0, 3), (ADD_DELIVERY, 2, 0, 3), (ADD_DELIVERY, 9, 0, 6)]
        self.assertEqual(self.covered(supplied + [(ADD_COMMITMENT, 2, 3), (ADD_COMMITMENT, 5, 6)])[1], 1)
        self.assertEqual(self.covered(supplied + [(ADD_COMMITMENT, 3, 3)])[1], 0)
        self.assertEqual(self.covered(supplied + [(ADD_COMMITMENT, 2, 3), (ADD_COMMITMENT, 6, 6)])[1], 0)

    def test_a_shortage_on_a_single_day_is_found(self):
        for day in range(31):
            calls = [(CREATE, 3), (ADD_COMMITMENT, 4, day)]
            if day < 30:
                calls.append((ADD_DELIVERY, 50, 0, day + 1))
            self.assertEqual(self.covered(calls), [0] * 7)

    def test_refuses_more_than_6_failures(self):
        for before in [[(CREATE, 1)], [(CREATE, 0), (ADD_DELIVERY, 5, 0, 8), (ADD_COMMITMENT, 9, 2)]]:
            for k in [7, 8, 4294967289, GREATEST]:
                self.assertEqual(behind(before, [(IS_COVERED, k)]), [[-22]])
                self.assertEqual(behind(before + [(IS_COVERED, k)], LOOK_DEEPER), behind(before, LOOK_DEEPER))


class ExactCoverageTest(unittest.TestCase):
    """Point 1, against a reckoning over every set of at most k deliveries that fail."""

    def test_is_covered(self):
        seen = [0, 0]
        for seed in range(600):
            stock, deliveries, commitments = some_instance(Numbers(seed))
            before = calls_for(stock, deliveries, commitments)
            expected = [covered_whichever_fail(0, stock, deliveries, commitments, k) for k in range(7)]
            self.assertEqual(covered_for_each(before), expected, before)
            for covered in expected:
                seen[covered] += 1
        self.assertGreater(min(seen), 500)

    def test_add_covered_commitment(self):
        seen = [0, 0]
        for seed in range(600):
            numbers = Numbers(seed + 1000)
            stock, deliveries, commitments = some_instance(numbers)
            commitments = commitments[:6]
            more = (numbers.between(1, 20), numbers.between(0, 30))
            before = calls_for(stock, deliveries, commitments)
            for k in range(7):
                covered = covered_whichever_fail(0, stock, deliveries, commitments + [more], k)
                added = commitments + [more] if covered else commitments
                self.assertEqual(
                    behind(before, [(ADD_COVERED_COMMITMENT, k) + more, (LIST_COMMITMENTS,)]),
                    [[len(commitments)] if covered else [-30], [len(added)] + [one for pair in added for one in pair]])
                seen[covered] += 1
        self.assertGreater(min(seen), 500)


if __name__ == "__main__":
    unittest.main()
