"""The calls that tell something and change nothing, 9 to 11."""

from coveredstock.coverage import covered_for
from coveredstock.limits import MOST_FAILURES, OUT_OF_RANGE


def list_deliveries(plan):
    result = [len(plan.deliveries)]
    for delivery in plan.deliveries:
        result.extend([delivery.amount, delivery.earliest, delivery.latest])
    return result


def list_commitments(plan):
    result = [len(plan.commitments)]
    for commitment in plan.commitments:
        result.extend([commitment.amount, commitment.due])
    return result


def is_covered(plan, k):
    if k > MOST_FAILURES:
        return [OUT_OF_RANGE]
    # A written 1 or 0: an answer holds whole numbers, never True or False.
    return [1 if covered_for(plan, k) else 0]
