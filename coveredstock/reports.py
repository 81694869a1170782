"""The calls that tell what is, and change nothing: 9 to 16, 18, 22 and 23."""

from coveredstock.cancellation import best_members
from coveredstock.changes import day_ahead
from coveredstock.coverage import available_for, certain_supply, covered_for, due_by, first_short_day
from coveredstock.coverage import most_failures_covered, safe_numbers, surplus_by
from coveredstock.limits import LAST_DAY, MOST_FAILURES, NOT_POSSIBLE, OUT_OF_RANGE


def counted(numbers):
    """How many they are, followed by the numbers themselves."""
    return [len(numbers)] + numbers


def list_deliveries(plan):
    result = [len(plan.deliveries)]
    for delivery in plan.deliveries:
        result.extend([delivery.amount, delivery.earliest, delivery.latest])
    return result


def list_commitments(plan):
    result = [len(plan.commitments)]
    for commitment in plan.commitments:
        result.extend([commitment.amount, commitment.due])
    return result


def is_covered(plan, k):
    if k > MOST_FAILURES:
        return [OUT_OF_RANGE]
    # A written 1 or 0: an answer holds whole numbers, never True or False.
    return [1 if covered_for(plan, k) else 0]


def surplus(plan, k, day):
    if k > MOST_FAILURES or not day_ahead(plan, day):
        return [OUT_OF_RANGE]
    supply = certain_supply(plan, k, day)
    due = due_by(plan, day)
    return [1 if supply >= due else 0, abs(supply - due), supply, due]


def available(plan, k, day):
    if k > MOST_FAILURES or not day_ahead(plan, day):
        return [OUT_OF_RANGE]
    amount = available_for(plan, k, day)
    if amount < 0:
        return [NOT_POSSIBLE]
    return [amount]


def earliest_day(plan, k, amount):
    # No upper bound: the amount asked for may be that of several commitments.
    if k > MOST_FAILURES or amount == 0:
        return [OUT_OF_RANGE]
    for day in range(plan.today, LAST_DAY + 1):
        if available_for(plan, k, day) >= amount:
            return [day]
    return [NOT_POSSIBLE]


def tolerance(plan):
    k = most_failures_covered(plan)
    if k is None:
        return [NOT_POSSIBLE]
    return [k]


def safe_commitments(plan, k):
    if k > MOST_FAILURES:
        return [OUT_OF_RANGE]
    return counted(safe_numbers(plan, k))


def best_cancellation(plan, k):
    if k > MOST_FAILURES:
        return [OUT_OF_RANGE]
    return counted(best_members(plan, k))


def first_shortage(plan, k):
    if k > MOST_FAILURES:
        return [OUT_OF_RANGE]
    day = first_short_day(plan, k)
    if day is None:
        return [NOT_POSSIBLE]
    return [day, -surplus_by(plan, k, day)]


def summary(plan):
    counts = [len(plan.deliveries), len(plan.commitments), plan.arrived, plan.failed, plan.fulfilled]
    return [plan.today, plan.stock] + counts
