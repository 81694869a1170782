"""What the tests share: the calls by name, asking for a run of them, and looking at an instance."""

import unittest

from coveredstock.planner import answers

GREATEST = 4294967295

CREATE = 0
ADD_DELIVERY = 1
ADD_COMMITMENT = 2
ADD_COVERED_COMMITMENT = 3
CANCEL_COMMITMENT = 4
DELIVERY_ARRIVED = 5
DELIVERY_FAILED = 6
FULFILL_COMMITMENT = 7
NEXT_DAY = 8
LIST_DELIVERIES = 9
LIST_COMMITMENTS = 10
IS_COVERED = 11

# One call of each kind but create, with numbers that a new instance takes or answers with its own error.
ALL_BUT_CREATE = [
    (ADD_DELIVERY, 1, 0, 30),
    (ADD_COMMITMENT, 1, 30),
    (ADD_COVERED_COMMITMENT, 0, 1, 30),
    (CANCEL_COMMITMENT, 0),
    (DELIVERY_ARRIVED, 0),
    (DELIVERY_FAILED, 0),
    (FULFILL_COMMITMENT, 0),
    (NEXT_DAY,),
    (LIST_DELIVERIES,),
    (LIST_COMMITMENTS,),
    (IS_COVERED, 0),
]

# Shows the lists and the coverage, then whatever else can be seen: stock and today come to
# light in what the later calls of this run answer.
LOOK = [
    (LIST_DELIVERIES,),
    (LIST_COMMITMENTS,),
] + [(IS_COVERED, k) for k in range(7)]

LOOK_DEEPER = LOOK + [
    (DELIVERY_FAILED, 0),
    (ADD_DELIVERY, 1, 0, 30),
    (DELIVERY_ARRIVED, 0),
    (DELIVERY_ARRIVED, 0),
    (CANCEL_COMMITMENT, 0),
    (ADD_COMMITMENT, 1, 30),
    (FULFILL_COMMITMENT, 0),
    (FULFILL_COMMITMENT, 0),
    (NEXT_DAY,),
    (ADD_COMMITMENT, 1, 0),
    (LIST_DELIVERIES,),
    (LIST_COMMITMENTS,),
]


def flat(calls):
    return [number for call in calls for number in call]


def split(told):
    """The results one by one, each without its count."""
    results = []
    place = 0
    while place < len(told):
        count = told[place]
        result = told[place + 1:place + 1 + count]
        if count < 1 or len(result) != count:
            raise AssertionError(f"a count that doesn't fit at {place} of {told}")
        results.append(result)
        place += 1 + count
    return results


def ask(calls):
    """Has the calls executed on their own, and gives back a list of numbers for each."""
    told = answers(flat(calls))
    if type(told) is not list or any(type(number) is not int for number in told):
        raise AssertionError(f"not a list of whole numbers: {told}")
    results = split(told)
    if len(results) != len(calls):
        raise AssertionError(f"{len(calls)} calls, but {len(results)} results: {told}")
    return results


def last(calls):
    return ask(calls)[-1]


def behind(before, calls):
    """The results of the calls, when others have been executed before them."""
    return ask(before + calls)[len(before):]


def days(count):
    return [(NEXT_DAY,)] * count


class CallsTest(unittest.TestCase):
    def refused(self, before, call, code):
        """The call answers the code alone, and all that can be seen is as if it had not been made."""
        self.assertEqual(last(before + [call]), [code], call)
        self.assertEqual(behind(before + [call], LOOK_DEEPER), behind(before, LOOK_DEEPER), call)


class Numbers:
    """A row of numbers that looks random and is the same at every run."""

    def __init__(self, seed):
        self.state = seed * 2654435761 + 12345

    def below(self, limit):
        self.state = (self.state * 6364136223846793005 + 1442695040888963407) % 2 ** 64
        return (self.state >> 33) % limit

    def between(self, least, greatest):
        return least + self.below(greatest - least + 1)

    def one_of(self, choices):
        return choices[self.below(len(choices))]
