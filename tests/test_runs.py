"""Runs of calls against the second reckoning, and what the document promises along them (points 2 and 6)."""

import unittest

from tests.asking import (
    ADD_COMMITMENT, ADD_COVERED_COMMITMENT, ADD_DELIVERY, CREATE, DELIVERY_ARRIVED, DELIVERY_FAILED,
    FULFILL_COMMITMENT, IS_COVERED, LIST_COMMITMENTS, LIST_DELIVERIES, LOOK, NEXT_DAY, Numbers, ask, behind,
    covered_for_each,
)
from tests.instances import some_run


class RunsTest(unittest.TestCase):
    def test_runs_answer_as_the_second_reckoning(self):
        codes = {}
        for seed in range(1000):
            calls, expected = some_run(seed, 50)
            self.assertEqual(ask(calls), expected, calls)
            for call, result in zip(calls, expected):
                if result[0] < 0:
                    codes[call[0], result[0]] = True
        every = [(0, -22), (1, -22), (1, -28), (2, -22), (2, -28), (3, -22), (3, -28), (3, -30), (4, -2), (5, -2),
                 (5, -33), (6, -2), (7, -2), (7, -19), (8, -30), (8, -33), (11, -22), (12, -22), (13, -22), (13, -33),
                 (14, -22), (14, -33), (15, -33), (16, -22), (17, -2), (18, -22), (19, -22), (20, -22), (20, -28),
                 (21, -22), (21, -28), (21, -33), (22, -22), (22, -33)]
        self.assertEqual([pair for pair in every if pair not in codes], [])

    def test_an_error_leaves_the_instance_unchanged(self):
        # Point 6: without the refused calls every other one answers the same.
        refused = 0
        for seed in range(2000, 2300):
            calls, expected = some_run(seed, 50 - len(LOOK))
            results = ask(calls + LOOK)
            taken = [place for place in range(len(calls)) if results[place][0] >= 0]
            refused += len(calls) - len(taken)
            alone = ask([calls[place] for place in taken] + LOOK)
            self.assertEqual(alone, [results[place] for place in taken] + results[len(calls):], calls)
        self.assertGreater(refused, 1000)


class CoverageIsKeptTest(unittest.TestCase):
    """Point 2, along runs of events."""

    def start(self, numbers):
        stock = numbers.below(40)
        calls = [(CREATE, stock)]
        for count in range(numbers.between(2, 6)):
            latest = numbers.between(1, 12)
            calls.append((ADD_DELIVERY, numbers.between(1, 20), numbers.between(0, latest), latest))
        for count in range(7):
            k = numbers.below(3)
            calls.append((ADD_COVERED_COMMITMENT, k, numbers.between(1, 9), numbers.between(0, 14)))
        return calls

    def check_event(self, before, event):
        """What the event, which has happened, must leave covered."""
        first = covered_for_each(before)
        then = covered_for_each(before + [event])
        for k in range(7):
            if event[0] in (DELIVERY_ARRIVED, NEXT_DAY) and first[k]:
                self.assertTrue(then[k], (before, event, k))
            if event[0] == DELIVERY_FAILED and first[k] and k > 0:
                self.assertTrue(then[k - 1], (before, event, k))

    def check_due(self, before, today):
        """With no delivery at its latest day, what is due can be fulfilled, and the others stay covered."""
        deliveries, commitments = behind(before, [(LIST_DELIVERIES,), (LIST_COMMITMENTS,)])
        first = covered_for_each(before)
        if any(latest <= today for latest in deliveries[3::3]) or not first[0]:
            return 0
        due_now = [number for number, due in enumerate(commitments[2::2]) if due <= today]
        for number in due_now:
            after = before + [(FULFILL_COMMITMENT, number)]
            self.assertGreaterEqual(ask(after)[-1][0], 0, after)
            then = covered_for_each(after)
            self.assertEqual([k for k in range(7) if first[k] and not then[k]], [], after)
        every = before + [(FULFILL_COMMITMENT, number) for number in reversed(due_now)]
        self.assertEqual([result for result in ask(every) if result == [-19]], [], every)
        return len(due_now)

    def event(self, numbers, before):
        """Mostly what the day asks for, so that the days pass."""
        result = behind(before, [(NEXT_DAY,)])[0]
        if result == [-30]:
            commitments = behind(before, [(LIST_COMMITMENTS,)])[0]
            return (FULFILL_COMMITMENT, commitments[2::2].index(min(commitments[2::2])))
        if result == [-33]:
            deliveries = behind(before, [(LIST_DELIVERIES,)])[0]
            return (numbers.one_of([DELIVERY_ARRIVED, DELIVERY_FAILED]), deliveries[3::3].index(min(deliveries[3::3])))
        return numbers.one_of([(DELIVERY_ARRIVED, numbers.below(6)), (DELIVERY_FAILED, numbers.below(6)), (NEXT_DAY,)])

    def test_along_runs_of_events(self):
        happened = {}
        fulfilled = 0
        for seed in range(120):
            numbers = Numbers(seed + 5000)
            calls = self.start(numbers)
            today = 0
            for step in range(25):
                fulfilled += self.check_due(calls, today)
                event = self.event(numbers, calls)
                result = ask(calls + [event])[-1][0]
                if result < 0:
                    continue
                self.check_event(calls, event)
                happened[event[0]] = happened.get(event[0], 0) + 1
                if event[0] == NEXT_DAY:
                    today = result
                calls.append(event)
        self.assertGreater(fulfilled, 100)
        self.assertGreater(min(happened.values()), 100)
        self.assertEqual(sorted(happened), [DELIVERY_ARRIVED, DELIVERY_FAILED, FULFILL_COMMITMENT, NEXT_DAY])

    def test_a_failure_may_cost_one_of_the_tolerated_failures(self):
        before = [(CREATE, 0), (ADD_DELIVERY, 5, 0, 4), (ADD_DELIVERY, 5, 0, 4), (ADD_COMMITMENT, 5, 4)]
        self.assertEqual(behind(before, [(IS_COVERED, 1), (DELIVERY_FAILED, 1), (IS_COVERED, 1), (IS_COVERED, 0)]),
                         [[1], [1], [0], [1]])


if __name__ == "__main__":
    unittest.main()
