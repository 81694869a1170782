"""The calls that tell what would be: 17, 20 and 21. Each asks a supposed plan, so the instance stays as it is."""

from coveredstock.changes import add_commitment, add_delivery
from coveredstock.coverage import safe_numbers
from coveredstock.limits import MOST_FAILURES, NOT_FOUND, OUT_OF_RANGE
from coveredstock.reports import counted, is_covered, tolerance
from coveredstock.state import supposed_plan


def dependent_commitments(plan, delivery):
    if delivery >= len(plan.deliveries):
        return [NOT_FOUND]
    supposed = supposed_plan(plan)
    supposed.deliveries.pop(delivery)
    still_safe = safe_numbers(supposed, 0)
    return counted([number for number in safe_numbers(plan, 0) if number not in still_safe])


def is_covered_with_delivery(plan, amount, latest, k):
    if k > MOST_FAILURES:
        return [OUT_OF_RANGE]
    supposed = supposed_plan(plan)
    # Coverage goes by the latest day alone, so any earliest day up to it would do.
    result = add_delivery(supposed, amount, latest, latest)
    if result[0] < 0:
        return result
    return is_covered(supposed, k)


def tolerance_with_commitment(plan, amount, due):
    supposed = supposed_plan(plan)
    result = add_commitment(supposed, amount, due)
    if result[0] < 0:
        return result
    return tolerance(supposed)
