"""Instances and runs of calls to try, the same ones every time."""

from tests.asking import (
    ADD_COMMITMENT, ADD_COVERED_COMMITMENT, ADD_DELIVERY, AVAILABLE, BEST_CANCELLATION, CANCEL_BEST, CANCEL_COMMITMENT,
    CREATE, DELIVERY_ARRIVED, DELIVERY_FAILED, DEPENDENT_COMMITMENTS, EARLIEST_DAY, FIRST_SHORTAGE, FULFILL_COMMITMENT,
    GREATEST, IS_COVERED, IS_COVERED_WITH_DELIVERY, LIST_COMMITMENTS, LIST_DELIVERIES, NEXT_DAY, SAFE_COMMITMENTS,
    SUMMARY, SURPLUS, TOLERANCE, TOLERANCE_WITH_COMMITMENT, Numbers, days,
)
from tests.reckoning import Reckoning


def some_instance(numbers):
    """Stock, deliveries and commitments near one another, so that covered and not covered are both common."""
    greatest = numbers.one_of([2, 5, 20, 99])
    last_day = numbers.one_of([3, 8, 30])
    stock = numbers.below(greatest * 3)
    deliveries = []
    for count in range(numbers.below(7)):
        latest = numbers.between(0, last_day)
        deliveries.append((numbers.between(1, greatest), numbers.between(0, latest), latest))
    commitments = []
    for count in range(numbers.below(8)):
        commitments.append((numbers.between(1, greatest), numbers.between(0, last_day)))
    return stock, deliveries, commitments


def calls_for(stock, deliveries, commitments):
    """The calls that make this instance."""
    added = [(ADD_DELIVERY,) + one for one in deliveries] + [(ADD_COMMITMENT,) + one for one in commitments]
    return [(CREATE, stock)] + added


def some_question(numbers, today):
    """A call that changes nothing."""
    k = numbers.below(7)
    day = numbers.between(today, 30)
    return numbers.one_of([
        (SURPLUS, k, day),
        (AVAILABLE, k, day),
        (EARLIEST_DAY, k, numbers.between(1, 40)),
        (TOLERANCE,),
        (SAFE_COMMITMENTS, k),
        (DEPENDENT_COMMITMENTS, numbers.below(6)),
        (BEST_CANCELLATION, k),
        (IS_COVERED_WITH_DELIVERY, numbers.between(1, 20), day, k),
        (TOLERANCE_WITH_COMMITMENT, numbers.between(1, 20), day),
        (FIRST_SHORTAGE, k),
        (SUMMARY,),
    ])


def some_call(numbers, today):
    """A call that is often taken, and sometimes wrong in one of its numbers."""
    call = numbers.one_of([
        (ADD_DELIVERY, numbers.between(1, 20), numbers.between(0, 12), numbers.between(0, 14)),
        (ADD_DELIVERY, numbers.between(1, 20), today, numbers.between(today, min(today + 6, 30))),
        (ADD_COMMITMENT, numbers.between(1, 12), numbers.between(today, min(today + 6, 30))),
        (ADD_COVERED_COMMITMENT, numbers.below(3), numbers.between(1, 9), numbers.between(today, min(today + 9, 30))),
        (ADD_COVERED_COMMITMENT, numbers.below(3), numbers.between(1, 5), numbers.between(0, 30)),
        (CANCEL_COMMITMENT, numbers.below(7)),
        (DELIVERY_ARRIVED, numbers.below(3)),
        (DELIVERY_ARRIVED, numbers.below(6)),
        (DELIVERY_FAILED, numbers.below(6)),
        (FULFILL_COMMITMENT, numbers.below(3)),
        (FULFILL_COMMITMENT, numbers.below(7)),
        (NEXT_DAY,),
        (NEXT_DAY,),
        (NEXT_DAY,),
        (LIST_DELIVERIES,),
        (LIST_COMMITMENTS,),
        (IS_COVERED, numbers.below(7)),
        (CREATE, numbers.below(60)),
        some_question(numbers, today),
        some_question(numbers, today),
        some_question(numbers, today),
        some_question(numbers, today),
        some_question(numbers, today),
        some_question(numbers, today),
        (CANCEL_BEST, numbers.below(3)),
    ])
    if len(call) == 1 or numbers.below(8) != 0:
        return call if call[0] != CREATE or numbers.below(4) == 0 else (NEXT_DAY,)
    place = numbers.between(1, len(call) - 1)
    wrong = numbers.one_of([0, 6, 7, 31, 99, 100, 999, 1000, GREATEST - 1, GREATEST])
    return call[:place] + (wrong,) + call[place + 1:]


def some_run(seed, length):
    """Calls with what the second reckoning answers to each."""
    numbers = Numbers(seed)
    reckoning = Reckoning()
    start = numbers.below(10)
    calls = []
    if start > 4:
        calls = [(CREATE, numbers.below(60))]
    elif start > 0:
        calls = calls_for(*some_instance(numbers))
    expected = [reckoning.execute(call) for call in calls]
    while len(calls) < length:
        call = some_call(numbers, reckoning.today or 0)
        calls.append(call)
        expected.append(reckoning.execute(call))
    return calls, expected


def some_past(seed):
    """At most 36 calls that lead to an instance in the midst of its days, and the reckoning that has executed them."""
    numbers = Numbers(seed)
    stock, deliveries, commitments = some_instance(numbers)
    day = numbers.below(9)
    calls = [(CREATE, stock)] + days(day)
    calls += [(ADD_DELIVERY, amount, earliest, min(latest + day, 30)) for amount, earliest, latest in deliveries]
    calls += [(ADD_COMMITMENT, amount, min(due + day, 30)) for amount, due in commitments]
    reckoning = Reckoning()
    for call in calls:
        reckoning.execute(call)
    for count in range(numbers.below(15)):
        call = numbers.one_of([
            (DELIVERY_ARRIVED, numbers.below(6)),
            (DELIVERY_FAILED, numbers.below(6)),
            (FULFILL_COMMITMENT, numbers.below(7)),
            (NEXT_DAY,),
            (NEXT_DAY,),
            (ADD_DELIVERY, numbers.between(1, 20), day, numbers.between(reckoning.today, 30)),
            (ADD_COMMITMENT, numbers.between(1, 20), numbers.between(reckoning.today, 30)),
        ])
        reckoning.execute(call)
        calls.append(call)
    return calls, reckoning
