"""What the tests share: the calls by name, asking for a run of them, and looking at an instance."""

import unittest

from coveredstock.planner import answers

GREATEST = 4294967295

CREATE = 0
ADD_DELIVERY = 1
ADD_COMMITMENT = 2
ADD_COVERED_COMMITMENT = 3
CANCEL_COMMITMENT = 4
DELIVERY_ARRIVED = 5
DELIVERY_FAILED = 6
FULFILL_COMMITMENT = 7
NEXT_DAY = 8
LIST_DELIVERIES = 9
LIST_COMMITMENTS = 10
IS_COVERED = 11
SURPLUS = 12
AVAILABLE = 13
EARLIEST_DAY = 14
TOLERANCE = 15
SAFE_COMMITMENTS = 16
DEPENDENT_COMMITMENTS = 17
BEST_CANCELLATION = 18
CANCEL_BEST = 19
IS_COVERED_WITH_DELIVERY = 20
TOLERANCE_WITH_COMMITMENT = 21
FIRST_SHORTAGE = 22
SUMMARY = 23

# One call of each kind but create, with numbers that a new instance takes or answers with its own error.
ALL_BUT_CREATE = [
    (ADD_DELIVERY, 1, 0, 30),
    (ADD_COMMITMENT, 1, 30),
    (ADD_COVERED_COMMITMENT, 0, 1, 30),
    (CANCEL_COMMITMENT, 0),
    (DELIVERY_ARRIVED, 0),
    (DELIVERY_FAILED, 0),
    (FULFILL_COMMITMENT, 0),
    (NEXT_DAY,),
    (LIST_DELIVERIES,),
    (LIST_COMMITMENTS,),
    (IS_COVERED, 0),
    (SURPLUS, 0, 30),
    (AVAILABLE, 0, 30),
    (EARLIEST_DAY, 0, 1),
    (TOLERANCE,),
    (SAFE_COMMITMENTS, 0),
    (DEPENDENT_COMMITMENTS, 0),
    (BEST_CANCELLATION, 0),
    (CANCEL_BEST, 0),
    (IS_COVERED_WITH_DELIVERY, 1, 30, 0),
    (TOLERANCE_WITH_COMMITMENT, 1, 30),
    (FIRST_SHORTAGE, 0),
    (SUMMARY,),
]

# All that an instance holds, and the coverage.
LOOK = [
    (LIST_DELIVERIES,),
    (LIST_COMMITMENTS,),
    (SUMMARY,),
] + [(IS_COVERED, k) for k in range(7)]

# Behind that a few events, which come out otherwise if something is changed that the lists don't show.
LOOK_DEEPER = LOOK + [
    (DELIVERY_ARRIVED, 0),
    (FULFILL_COMMITMENT, 0),
    (DELIVERY_FAILED, 0),
    (NEXT_DAY,),
    (SUMMARY,),
]


def flat(calls):
    return [number for call in calls for number in call]


def split(told):
    """The results one by one, each without its count."""
    results = []
    place = 0
    while place < len(told):
        count = told[place]
        result = told[place + 1:place + 1 + count]
        if count < 1 or len(result) != count:
            raise AssertionError(f"a count that doesn't fit at {place} of {told}")
        results.append(result)
        place += 1 + count
    return results


def ask(calls):
    """Has the calls executed on their own, and gives back a list of numbers for each."""
    if len(calls) > 50 or len(flat(calls)) > 200:
        raise AssertionError(f"a longer list than is ever handed in: {len(calls)} calls")
    told = answers(flat(calls))
    if type(told) is not list or any(type(number) is not int for number in told):
        raise AssertionError(f"not a list of whole numbers: {told}")
    results = split(told)
    if len(results) != len(calls):
        raise AssertionError(f"{len(calls)} calls, but {len(results)} results: {told}")
    return results


def last(calls):
    return ask(calls)[-1]


def behind(before, calls):
    """The results of the calls, when others have been executed before them."""
    return ask(before + calls)[len(before):]


def covered_for_each(before):
    """Whether the commitments are covered for 0 to 6 failures."""
    return [result == [1] for result in behind(before, [(IS_COVERED, k) for k in range(7)])]


def days(count):
    return [(NEXT_DAY,)] * count


class CallsTest(unittest.TestCase):
    def refused(self, before, call, code):
        """The call answers the code alone, and all that can be seen is as if it had not been made."""
        self.assertEqual(last(before + [call]), [code], call)
        self.leaves_all(before, call)

    def leaves_all(self, before, call):
        """All that can be seen behind the call is as if it had not been made."""
        self.assertEqual(behind(before + [call], LOOK_DEEPER), behind(before, LOOK_DEEPER), call)

    def tells(self, before, call, expected):
        """The call answers what is expected, and changes nothing."""
        self.assertEqual(last(before + [call]), expected, call)
        self.leaves_all(before, call)


class Numbers:
    """A row of numbers that looks random and is the same at every run."""

    def __init__(self, seed):
        self.state = seed * 2654435761 + 12345

    def below(self, limit):
        self.state = (self.state * 6364136223846793005 + 1442695040888963407) % 2 ** 64
        return (self.state >> 33) % limit

    def between(self, least, greatest):
        return least + self.below(greatest - least + 1)

    def one_of(self, choices):
        return choices[self.below(len(choices))]
