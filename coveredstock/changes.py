"""The calls that change the instance, 1 to 8 and 19. Each checks all its errors before it changes anything."""

from coveredstock.cancellation import best_members, cancel_members
from coveredstock.coverage import covered_for
from coveredstock.limits import AT_LAST_DAY, LAST_DAY, MOST_AMOUNT, MOST_COMMITMENTS, MOST_DELIVERIES, MOST_FAILURES
from coveredstock.limits import NOT_COVERED, NOT_FOUND, NOT_POSSIBLE, OUT_OF_RANGE, STILL_DUE, STOCK_TOO_SMALL
from coveredstock.limits import TOO_MANY
from coveredstock.state import Commitment, Delivery, supposed_plan


def amount_in_range(amount):
    return 1 <= amount <= MOST_AMOUNT


def day_ahead(plan, day):
    """Whether the day is today or a later one."""
    return plan.today <= day <= LAST_DAY


def add_delivery(plan, amount, earliest, latest):
    if not amount_in_range(amount) or latest < earliest or not day_ahead(plan, latest):
        return [OUT_OF_RANGE]
    if len(plan.deliveries) >= MOST_DELIVERIES:
        return [TOO_MANY]
    plan.deliveries.append(Delivery(amount, earliest, latest))
    return [len(plan.deliveries) - 1]


def add_commitment(plan, amount, due):
    if not amount_in_range(amount) or not day_ahead(plan, due):
        return [OUT_OF_RANGE]
    if len(plan.commitments) >= MOST_COMMITMENTS:
        return [TOO_MANY]
    plan.commitments.append(Commitment(amount, due))
    return [len(plan.commitments) - 1]


def add_covered_commitment(plan, k, amount, due):
    if k > MOST_FAILURES:
        return [OUT_OF_RANGE]
    supposed = supposed_plan(plan)
    result = add_commitment(supposed, amount, due)
    if result[0] < 0:
        return result
    if not covered_for(supposed, k):
        return [NOT_COVERED]
    return add_commitment(plan, amount, due)


def cancel_commitment(plan, commitment):
    if commitment >= len(plan.commitments):
        return [NOT_FOUND]
    plan.commitments.pop(commitment)
    return [len(plan.commitments)]


def delivery_arrived(plan, delivery):
    if delivery >= len(plan.deliveries):
        return [NOT_FOUND]
    if plan.today < plan.deliveries[delivery].earliest:
        return [NOT_POSSIBLE]
    plan.stock += plan.deliveries[delivery].amount
    plan.deliveries.pop(delivery)
    plan.arrived += 1
    return [plan.stock]


def delivery_failed(plan, delivery):
    if delivery >= len(plan.deliveries):
        return [NOT_FOUND]
    plan.deliveries.pop(delivery)
    plan.failed += 1
    return [len(plan.deliveries)]


def fulfill_commitment(plan, commitment):
    if commitment >= len(plan.commitments):
        return [NOT_FOUND]
    if plan.stock < plan.commitments[commitment].amount:
        return [STOCK_TOO_SMALL]
    plan.stock -= plan.commitments[commitment].amount
    plan.commitments.pop(commitment)
    plan.fulfilled += 1
    return [plan.stock]


def next_day(plan):
    if any([commitment.due <= plan.today for commitment in plan.commitments]):
        return [STILL_DUE]
    if any([delivery.latest <= plan.today for delivery in plan.deliveries]):
        return [NOT_POSSIBLE]
    if plan.today == LAST_DAY:
        return [AT_LAST_DAY]
    plan.today += 1
    return [plan.today]


def cancel_best(plan, k):
    if k > MOST_FAILURES:
        return [OUT_OF_RANGE]
    members = best_members(plan, k)
    cancel_members(plan, members)
    return [len(members)]
