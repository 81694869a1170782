"""The document's points 1, 3 and 5 on instances in the midst of their days (for the others see README.md)."""

import unittest

from tests.asking import (
    ADD_COMMITMENT, ADD_COVERED_COMMITMENT, AVAILABLE, CREATE, EARLIEST_DAY, FIRST_SHORTAGE, IS_COVERED,
    IS_COVERED_WITH_DELIVERY, SUMMARY, SURPLUS, TOLERANCE, TOLERANCE_WITH_COMMITMENT, Numbers, behind, covered_for_each,
    last,
)
from tests.instances import calls_for, some_instance, some_past
from tests.reckoning import covered_whichever_fail


class ExactCoverageTest(unittest.TestCase):
    """Point 1: coverage is what it is over every set of at most k deliveries that fail."""

    def test_is_covered_and_first_shortage(self):
        seen = [0, 0]
        for seed in range(200):
            calls, reckoning = some_past(seed + 20000)
            expected = [reckoning.covered(k) for k in range(7)]
            self.assertEqual(covered_for_each(calls), expected, calls)
            short = behind(calls, [(FIRST_SHORTAGE, k) for k in range(7)])
            self.assertEqual([result == [-33] for result in short], expected, calls)
            for result in expected:
                seen[result] += 1
        self.assertGreater(min(seen), 200)

    def test_surplus_is_the_least_over_every_set_that_fails(self):
        for seed in range(200):
            calls, reckoning = some_past(seed + 21000)
            for k in range(7):
                days = range(reckoning.today, min(reckoning.today + 13, 31))
                results = behind(calls, [(SURPLUS, k, day) for day in days])
                self.assertEqual(results, [reckoning.surplus(k, day) for day in days], calls)

    def test_with_a_further_delivery(self):
        seen = [0, 0]
        for seed in range(200):
            calls, reckoning = some_past(seed + 22000)
            numbers = Numbers(seed)
            if len(reckoning.deliveries) == 6:
                continue
            more = (numbers.between(1, 30), 0, numbers.between(reckoning.today, 30))
            for k in range(7):
                expected = covered_whichever_fail(
                    reckoning.today, reckoning.stock, reckoning.deliveries + [more], reckoning.commitments, k)
                self.assertEqual(last(calls + [(IS_COVERED_WITH_DELIVERY, more[0], more[2], k)]), [int(expected)])
                seen[expected] += 1
        self.assertGreater(min(seen), 200)


class AvailableAmountTest(unittest.TestCase):
    """Point 3: what is available can be committed, and one more can not."""

    def check_day(self, calls, reckoning, k, day):
        """Gives back whether something was available."""
        amount = last(calls + [(AVAILABLE, k, day)])[0]
        self.assertGreaterEqual(amount, 0, (calls, k, day))
        self.assertTrue(reckoning.covered(k, [(amount, day)]), (calls, k, day))
        self.assertFalse(reckoning.covered(k, [(amount + 1, day)]), (calls, k, day))
        room = 7 - len(reckoning.commitments)
        # More than 99 takes several commitments.
        parts = [(ADD_COMMITMENT, 99, day)] * (amount // 99)
        if amount % 99 != 0:
            parts.append((ADD_COMMITMENT, amount % 99, day))
        if len(parts) < room:
            self.assertEqual(
                behind(calls + parts, [(IS_COVERED, k), (ADD_COMMITMENT, 1, day), (IS_COVERED, k)])[::2], [[1], [0]])
        if room > 0 and 0 < amount < 99:
            number = len(reckoning.commitments)
            self.assertEqual(
                behind(calls, [(ADD_COVERED_COMMITMENT, k, amount + 1, day), (ADD_COVERED_COMMITMENT, k, amount, day)]),
                [[-30], [number]])
        return amount > 0

    def test_a_further_commitment(self):
        available = 0
        for seed in range(250):
            calls, reckoning = some_past(seed + 23000)
            numbers = Numbers(seed)
            for k in range(7):
                if reckoning.covered(k):
                    day = numbers.one_of([reckoning.today, 30, numbers.between(reckoning.today, 30)])
                    available += self.check_day(calls, reckoning, k, day)
        self.assertGreater(available, 300)

    def test_every_day_of_a_new_instance(self):
        for seed in range(40):
            stock, deliveries, commitments = some_instance(Numbers(seed + 24000))
            calls = calls_for(stock, deliveries, commitments)
            k = seed % 3
            amounts = behind(calls, [(AVAILABLE, k, day) for day in range(31)])
            for day in range(31):
                # The document's words: the least surplus from the day on.
                least = min((-1) ** (1 - result[0]) * result[1]
                            for result in behind(calls, [(SURPLUS, k, later) for later in range(day, 31)]))
                self.assertEqual(amounts[day], [least] if least >= 0 else [-33], (calls, k, day))

    def test_the_earliest_day_is_the_first_with_so_much_available(self):
        seen = {}
        for seed in range(60):
            calls, reckoning = some_past(seed + 25000)
            today = reckoning.today
            for k in [0, 1, 2]:
                available = [reckoning.available(k, day)[0] for day in range(today, 31)]
                for amount in sorted({1, 2, 7, 50, 99, 100, 101} | {one for one in available if one > 0}):
                    days = [today + place for place, one in enumerate(available) if one >= amount]
                    expected = days[:1] if days else [-33]
                    self.assertEqual(last(calls + [(EARLIEST_DAY, k, amount)]), expected, (calls, k, amount))
                    kind = "none" if not days else "today" if days[0] == today else "later"
                    seen[kind] = seen.get(kind, 0) + 1
        self.assertGreater(min(seen[kind] for kind in ["none", "today", "later"]), 50)


class TolerancePointTest(unittest.TestCase):
    """Point 5: covered for every number of failures up to the tolerance, and for none beyond it."""

    def check(self, calls, reckoning, k, more):
        """The tolerance k, or -33, is right for the reckoning's instance with further commitments."""
        count = len(reckoning.deliveries)
        greatest = -1 if k == -33 else k
        self.assertIn(greatest, range(-1, count + 1), calls)
        for failing in range(count + 1):
            self.assertEqual(reckoning.covered(failing, more), failing <= greatest, (calls, failing))

    def test_tolerance(self):
        seen = {}
        for seed in range(300):
            calls, reckoning = some_past(seed + 26000)
            k = last(calls + [(TOLERANCE,)])[0]
            self.check(calls, reckoning, k, [])
            told = covered_for_each(calls)[:len(reckoning.deliveries) + 1]
            self.assertEqual(told, [failing <= k for failing in range(len(told))], calls)
            seen[k] = seen.get(k, 0) + 1
        self.assertEqual(sorted(seen), [-33, 0, 1, 2, 3, 4, 5, 6])

    def test_tolerance_with_commitment(self):
        seen = {}
        for seed in range(300):
            calls, reckoning = some_past(seed + 27000)
            numbers = Numbers(seed)
            more = (numbers.between(1, numbers.one_of([3, 10, 99])), numbers.between(reckoning.today, 30))
            result = last(calls + [(TOLERANCE_WITH_COMMITMENT,) + more])
            if len(reckoning.commitments) == 7:
                self.assertEqual(result, [-28], calls)
                continue
            self.check(calls, reckoning, result[0], [more])
            self.assertEqual(last(calls + [(ADD_COMMITMENT,) + more, (TOLERANCE,)]), result, calls)
            seen[result[0]] = seen.get(result[0], 0) + 1
        self.assertGreater(len(seen), 5)


class CountersTest(unittest.TestCase):
    def test_along_runs_of_events(self):
        greatest = [0] * 7
        for seed in range(300):
            calls, reckoning = some_past(seed + 28000)
            result = last(calls + [(SUMMARY,)])
            self.assertEqual(result, reckoning.summary(), calls)
            self.assertEqual(last(calls + [(CREATE, 5), (SUMMARY,)]), [0, 5, 0, 0, 0, 0, 0], calls)
            greatest = [max(pair) for pair in zip(greatest, result)]
        self.assertGreater(min(greatest[4:]), 1)


if __name__ == "__main__":
    unittest.main()
