"""is_covered, and the document's points 1, 2 and 6 along many instances."""

import unittest

from tests.asking import (
    ADD_COMMITMENT, ADD_COVERED_COMMITMENT, ADD_DELIVERY, CANCEL_COMMITMENT, CREATE, DELIVERY_ARRIVED, DELIVERY_FAILED,
    FULFILL_COMMITMENT, GREATEST, IS_COVERED, LIST_COMMITMENTS, LIST_DELIVERIES, LOOK, LOOK_DEEPER, NEXT_DAY, Numbers,
    ask, behind, days,
)
from tests.reckoning import Reckoning, covered_whichever_fail

EVERY_K = [(IS_COVERED, k) for k in range(7)]


def covered_for_each(before):
    """Whether the commitments are covered for 0 to 6 failures."""
    return [result == [1] for result in behind(before, EVERY_K)]


class IsCoveredTest(unittest.TestCase):
    def covered(self, before):
        return [int(covered) for covered in covered_for_each(before)]

    def test_nothing_committed_is_covered(self):
        self.assertEqual(self.covered([(CREATE, 0)]), [1] * 7)
        self.assertEqual(self.covered([(CREATE, 0)] + [(ADD_DELIVERY, 9, 0, 3)] * 6), [1] * 7)

    def test_stock_covers_to_the_last_unit(self):
        for day in [0, 13, 30]:
            self.assertEqual(self.covered([(CREATE, 10), (ADD_COMMITMENT, 10, day)]), [1] * 7)
            self.assertEqual(self.covered([(CREATE, 10), (ADD_COMMITMENT, 11, day)]), [0] * 7)

    def test_a_delivery_counts_from_its_latest_day(self):
        supplied = [(CREATE, 0), (ADD_DELIVERY, 5, 2, 8)]
        self.assertEqual(self.covered(supplied + [(ADD_COMMITMENT, 5, 7)]), [0] * 7)
        self.assertEqual(self.covered(supplied + [(ADD_COMMITMENT, 5, 8)]), [1] + [0] * 6)
        self.assertEqual(self.covered(supplied + [(ADD_COMMITMENT, 5, 9)]), [1] + [0] * 6)

    def test_on_days_0_and_30(self):
        self.assertEqual(self.covered([(CREATE, 0), (ADD_DELIVERY, 5, 0, 0), (ADD_COMMITMENT, 5, 0)]), [1] + [0] * 6)
        self.assertEqual(self.covered([(CREATE, 0), (ADD_DELIVERY, 5, 0, 30), (ADD_COMMITMENT, 5, 30)]), [1] + [0] * 6)
        late = [(CREATE, 0)] + days(30) + [(ADD_DELIVERY, 5, 0, 30)]
        self.assertEqual(self.covered(late + [(ADD_COMMITMENT, 5, 30)]), [1] + [0] * 6)
        self.assertEqual(self.covered(late + [(ADD_COMMITMENT, 6, 30)]), [0] * 7)

    def test_the_greatest_deliveries_fail(self):
        # 40 in all; without the greatest one 25, then 15, 10, 6, 3, and nothing.
        amounts = [4, 15, 3, 10, 3, 5]
        supplied = [(CREATE, 0)] + [(ADD_DELIVERY, amount, 0, 4) for amount in amounts]
        for due, most in [(40, 0), (25, 1), (15, 2), (10, 3), (6, 4), (3, 5)]:
            self.assertEqual(self.covered(supplied + [(ADD_COMMITMENT, due, 4)]), [1] * (most + 1) + [0] * (6 - most))
            self.assertEqual(self.covered(supplied + [(ADD_COMMITMENT, due + 1, 4)]), [1] * most + [0] * (7 - most))

    def test_the_failing_ones_differ_from_day_to_day(self):
        # One failure costs 5 by day 3, but 9 by day 6.
        supplied = [(CREATE, 0), (ADD_DELIVERY, 5, 0, 3), (ADD_DELIVERY, 2, 0, 3), (ADD_DELIVERY, 9, 0, 6)]
        self.assertEqual(self.covered(supplied + [(ADD_COMMITMENT, 2, 3), (ADD_COMMITMENT, 5, 6)])[1], 1)
        self.assertEqual(self.covered(supplied + [(ADD_COMMITMENT, 3, 3)])[1], 0)
        self.assertEqual(self.covered(supplied + [(ADD_COMMITMENT, 2, 3), (ADD_COMMITMENT, 6, 6)])[1], 0)

    def test_a_shortage_on_a_single_day_is_found(self):
        for day in range(31):
            calls = [(CREATE, 3), (ADD_COMMITMENT, 4, day)]
            if day < 30:
                calls.append((ADD_DELIVERY, 50, 0, day + 1))
            self.assertEqual(self.covered(calls), [0] * 7)

    def test_refuses_more_than_6_failures(self):
        for before in [[(CREATE, 1)], [(CREATE, 0), (ADD_DELIVERY, 5, 0, 8), (ADD_COMMITMENT, 9, 2)]]:
            for k in [7, 8, 4294967289, GREATEST]:
                self.assertEqual(behind(before, [(IS_COVERED, k)]), [[-22]])
                self.assertEqual(behind(before + [(IS_COVERED, k)], LOOK_DEEPER), behind(before, LOOK_DEEPER))


class ExactCoverageTest(unittest.TestCase):
    """Point 1, against a reckoning over every set of at most k deliveries that fail."""

    def instance(self, numbers):
        """Numbers near one another, so that covered and not covered are both common."""
        greatest = numbers.one_of([2, 5, 20, 99])
        last_day = numbers.one_of([3, 8, 30])
        stock = numbers.below(greatest * 3)
        deliveries = []
        for count in range(numbers.below(7)):
            latest = numbers.between(0, last_day)
            deliveries.append((numbers.between(1, greatest), numbers.between(0, latest), latest))
        commitments = []
        for count in range(numbers.below(8)):
            commitments.append((numbers.between(1, greatest), numbers.between(0, last_day)))
        return stock, deliveries, commitments

    def test_is_covered(self):
        seen = [0, 0]
        for seed in range(600):
            stock, deliveries, commitments = self.instance(Numbers(seed))
            before = [(CREATE, stock)] + [(ADD_DELIVERY,) + one for one in deliveries]
            before += [(ADD_COMMITMENT,) + one for one in commitments]
            expected = [covered_whichever_fail(0, stock, deliveries, commitments, k) for k in range(7)]
            self.assertEqual(covered_for_each(before), expected, before)
            for covered in expected:
                seen[covered] += 1
        self.assertGreater(min(seen), 500)

    def test_add_covered_commitment(self):
        seen = [0, 0]
        for seed in range(600):
            numbers = Numbers(seed + 1000)
            stock, deliveries, commitments = self.instance(numbers)
            commitments = commitments[:6]
            more = (numbers.between(1, 20), numbers.between(0, 30))
            before = [(CREATE, stock)] + [(ADD_DELIVERY,) + one for one in deliveries]
            before += [(ADD_COMMITMENT,) + one for one in commitments]
            for k in range(7):
                covered = covered_whichever_fail(0, stock, deliveries, commitments + [more], k)
                added = commitments + [more] if covered else commitments
                self.assertEqual(
                    behind(before, [(ADD_COVERED_COMMITMENT, k) + more, (LIST_COMMITMENTS,)]),
                    [[len(commitments)] if covered else [-30], [len(added)] + [one for pair in added for one in pair]])
                seen[covered] += 1
        self.assertGreater(min(seen), 500)


def some_call(numbers, today):
    """A call that is often taken, and sometimes wrong in one of its numbers."""
    call = numbers.one_of([
        (ADD_DELIVERY, numbers.between(1, 20), numbers.between(0, 12), numbers.between(0, 14)),
        (ADD_DELIVERY, numbers.between(1, 20), today, numbers.between(today, min(today + 6, 30))),
        (ADD_COMMITMENT, numbers.between(1, 12), numbers.between(today, min(today + 6, 30))),
        (ADD_COVERED_COMMITMENT, numbers.below(3), numbers.between(1, 9), numbers.between(today, min(today + 9, 30))),
        (ADD_COVERED_COMMITMENT, numbers.below(3), numbers.between(1, 5), numbers.between(0, 30)),
        (CANCEL_COMMITMENT, numbers.below(7)),
        (DELIVERY_ARRIVED, numbers.below(3)),
        (DELIVERY_ARRIVED, numbers.below(6)),
        (DELIVERY_FAILED, numbers.below(6)),
        (FULFILL_COMMITMENT, numbers.below(3)),
        (FULFILL_COMMITMENT, numbers.below(7)),
        (NEXT_DAY,),
        (NEXT_DAY,),
        (NEXT_DAY,),
        (LIST_DELIVERIES,),
        (LIST_COMMITMENTS,),
        (IS_COVERED, numbers.below(7)),
        (CREATE, numbers.below(60)),
    ])
    if len(call) == 1 or numbers.below(8) != 0:
        return call if call[0] != CREATE or numbers.below(4) == 0 else (NEXT_DAY,)
    place = numbers.between(1, len(call) - 1)
    wrong = numbers.one_of([0, 6, 7, 31, 99, 100, 999, 1000, GREATEST - 1, GREATEST])
    return call[:place] + (wrong,) + call[place + 1:]


def some_run(seed, length):
    """Calls with what the second reckoning answers to each."""
    numbers = Numbers(seed)
    reckoning = Reckoning()
    calls = []
    expected = []
    if numbers.below(10) != 0:
        calls.append((CREATE, numbers.below(60)))
        expected.append(reckoning.execute(calls[0]))
    while len(calls) < length:
        call = some_call(numbers, reckoning.today or 0)
        calls.append(call)
        expected.append(reckoning.execute(call))
    return calls, expected


class RunsTest(unittest.TestCase):
    def test_runs_answer_as_the_second_reckoning(self):
        codes = {}
        for seed in range(1500):
            calls, expected = some_run(seed, 50)
            self.assertEqual(ask(calls), expected, calls)
            for call, result in zip(calls, expected):
                if result[0] < 0:
                    codes[call[0], result[0]] = True
        every = [(0, -22), (1, -22), (1, -28), (2, -22), (2, -28), (3, -22), (3, -28), (3, -30), (4, -2), (5, -2),
                 (5, -33), (6, -2), (7, -2), (7, -19), (8, -30), (8, -33), (11, -22)]
        self.assertEqual([pair for pair in every if pair not in codes], [])

    def test_an_error_leaves_the_instance_unchanged(self):
        # Point 6: without the refused calls every other one answers the same.
        refused = 0
        for seed in range(2000, 2300):
            calls, expected = some_run(seed, 50 - len(LOOK))
            taken = [place for place in range(len(calls)) if ask(calls)[place][0] >= 0]
            refused += len(calls) - len(taken)
            results = ask(calls + LOOK)
            alone = ask([calls[place] for place in taken] + LOOK)
            self.assertEqual(alone, [results[place] for place in taken] + results[len(calls):], calls)
        self.assertGreater(refused, 1000)


class CoverageIsKeptTest(unittest.TestCase):
    """Point 2, along runs of events."""

    def start(self, numbers):
        stock = numbers.below(40)
        calls = [(CREATE, stock)]
        for count in range(numbers.between(2, 6)):
            latest = numbers.between(1, 12)
            calls.append((ADD_DELIVERY, numbers.between(1, 20), numbers.between(0, latest), latest))
        for count in range(7):
            k = numbers.below(3)
            calls.append((ADD_COVERED_COMMITMENT, k, numbers.between(1, 9), numbers.between(0, 14)))
        return calls

    def check_event(self, before, event):
        """What the event, which has happened, must leave covered."""
        first = covered_for_each(before)
        then = covered_for_each(before + [event])
        for k in range(7):
            if event[0] in (DELIVERY_ARRIVED, NEXT_DAY) and first[k]:
                self.assertTrue(then[k], (before, event, k))
            if event[0] == DELIVERY_FAILED and first[k] and k > 0:
                self.assertTrue(then[k - 1], (before, event, k))

    def check_due(self, before, today):
        """With no delivery at its latest day, what is due can be fulfilled, and the others stay covered."""
        deliveries, commitments = behind(before, [(LIST_DELIVERIES,), (LIST_COMMITMENTS,)])
        first = covered_for_each(before)
        if any(latest <= today for latest in deliveries[3::3]) or not first[0]:
            return 0
        due_now = [number for number, due in enumerate(commitments[2::2]) if due <= today]
        for number in due_now:
            after = before + [(FULFILL_COMMITMENT, number)]
            self.assertGreaterEqual(ask(after)[-1][0], 0, after)
            then = covered_for_each(after)
            self.assertEqual([k for k in range(7) if first[k] and not then[k]], [], after)
        every = before + [(FULFILL_COMMITMENT, number) for number in reversed(due_now)]
        self.assertEqual([result for result in ask(every) if result == [-19]], [], every)
        return len(due_now)

    def event(self, numbers, before):
        """Mostly what the day asks for, so that the days pass."""
        result = behind(before, [(NEXT_DAY,)])[0]
        if result == [-30]:
            commitments = behind(before, [(LIST_COMMITMENTS,)])[0]
            return (FULFILL_COMMITMENT, commitments[2::2].index(min(commitments[2::2])))
        if result == [-33]:
            deliveries = behind(before, [(LIST_DELIVERIES,)])[0]
            return (numbers.one_of([DELIVERY_ARRIVED, DELIVERY_FAILED]), deliveries[3::3].index(min(deliveries[3::3])))
        return numbers.one_of([(DELIVERY_ARRIVED, numbers.below(6)), (DELIVERY_FAILED, numbers.below(6)), (NEXT_DAY,)])

    def test_along_runs_of_events(self):
        happened = {}
        fulfilled = 0
        for seed in range(120):
            numbers = Numbers(seed + 5000)
            calls = self.start(numbers)
            today = 0
            for step in range(25):
                fulfilled += self.check_due(calls, today)
                event = self.event(numbers, calls)
                result = ask(calls + [event])[-1][0]
                if result < 0:
                    continue
                self.check_event(calls, event)
                happened[event[0]] = happened.get(event[0], 0) + 1
                if event[0] == NEXT_DAY:
                    today = result
                calls.append(event)
        self.assertGreater(fulfilled, 100)
        self.assertGreater(min(happened.values()), 100)
        self.assertEqual(sorted(happened), [DELIVERY_ARRIVED, DELIVERY_FAILED, FULFILL_COMMITMENT, NEXT_DAY])

    def test_a_failure_may_cost_one_of_the_tolerated_failures(self):
        before = [(CREATE, 0), (ADD_DELIVERY, 5, 0, 4), (ADD_DELIVERY, 5, 0, 4), (ADD_COMMITMENT, 5, 4)]
        self.assertEqual(behind(before, [(IS_COVERED, 1), (DELIVERY_FAILED, 1), (IS_COVERED, 1), (IS_COVERED, 0)]),
                         [[1], [1], [0], [1]])


if __name__ == "__main__":
    unittest.main()
