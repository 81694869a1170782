"""Executes a list of calls, and gives back what they answer."""

from coveredstock.changes import add_commitment, add_covered_commitment, add_delivery, cancel_best, cancel_commitment
from coveredstock.changes import delivery_arrived, delivery_failed, fulfill_commitment, next_day
from coveredstock.limits import MOST_STOCK, NO_INSTANCE, OUT_OF_RANGE
from coveredstock.reports import available, best_cancellation, earliest_day, first_shortage, is_covered
from coveredstock.reports import list_commitments, list_deliveries, safe_commitments, summary, surplus, tolerance
from coveredstock.state import Plan
from coveredstock.suppositions import dependent_commitments, is_covered_with_delivery, tolerance_with_commitment

CREATE = 0
ADD_DELIVERY = 1
ADD_COMMITMENT = 2
ADD_COVERED_COMMITMENT = 3
CANCEL_COMMITMENT = 4
DELIVERY_ARRIVED = 5
DELIVERY_FAILED = 6
FULFILL_COMMITMENT = 7
NEXT_DAY = 8
LIST_DELIVERIES = 9
LIST_COMMITMENTS = 10
IS_COVERED = 11
SURPLUS = 12
AVAILABLE = 13
EARLIEST_DAY = 14
TOLERANCE = 15
SAFE_COMMITMENTS = 16
DEPENDENT_COMMITMENTS = 17
BEST_CANCELLATION = 18
CANCEL_BEST = 19
IS_COVERED_WITH_DELIVERY = 20
TOLERANCE_WITH_COMMITMENT = 21
FIRST_SHORTAGE = 22

# How many whole numbers each call is handed, at the place of its number: from create to summary.
PARAMETER_COUNTS = (1, 3, 2, 3, 1, 1, 1, 1, 0, 0, 0, 1, 2, 2, 2, 0, 1, 1, 1, 1, 3, 2, 1, 0)


class Planner:
    """Keeps the instance, which is None until a create has succeeded."""

    def __init__(self):
        self.plan = None


def create(planner, stock):
    if stock > MOST_STOCK:
        return [OUT_OF_RANGE]
    planner.plan = Plan(stock)
    return [0]


def execute_change(plan, call, numbers):
    """Executes a call that may change the instance."""
    if call == ADD_DELIVERY:
        return add_delivery(plan, numbers[0], numbers[1], numbers[2])
    if call == ADD_COMMITMENT:
        return add_commitment(plan, numbers[0], numbers[1])
    if call == ADD_COVERED_COMMITMENT:
        return add_covered_commitment(plan, numbers[0], numbers[1], numbers[2])
    if call == CANCEL_COMMITMENT:
        return cancel_commitment(plan, numbers[0])
    if call == DELIVERY_ARRIVED:
        return delivery_arrived(plan, numbers[0])
    if call == DELIVERY_FAILED:
        return delivery_failed(plan, numbers[0])
    if call == FULFILL_COMMITMENT:
        return fulfill_commitment(plan, numbers[0])
    if call == NEXT_DAY:
        return next_day(plan)
    return cancel_best(plan, numbers[0])


def execute_report(plan, call, numbers):
    """Executes a call that tells what is."""
    if call == LIST_DELIVERIES:
        return list_deliveries(plan)
    if call == LIST_COMMITMENTS:
        return list_commitments(plan)
    if call == IS_COVERED:
        return is_covered(plan, numbers[0])
    if call == SURPLUS:
        return surplus(plan, numbers[0], numbers[1])
    if call == AVAILABLE:
        return available(plan, numbers[0], numbers[1])
    if call == EARLIEST_DAY:
        return earliest_day(plan, numbers[0], numbers[1])
    if call == TOLERANCE:
        return tolerance(plan)
    if call == SAFE_COMMITMENTS:
        return safe_commitments(plan, numbers[0])
    if call == BEST_CANCELLATION:
        return best_cancellation(plan, numbers[0])
    if call == FIRST_SHORTAGE:
        return first_shortage(plan, numbers[0])
    return summary(plan)


def execute_supposition(plan, call, numbers):
    """Executes a call that tells what would be."""
    if call == DEPENDENT_COMMITMENTS:
        return dependent_commitments(plan, numbers[0])
    if call == IS_COVERED_WITH_DELIVERY:
        return is_covered_with_delivery(plan, numbers[0], numbers[1], numbers[2])
    return tolerance_with_commitment(plan, numbers[0], numbers[1])


def execute(planner, call, numbers):
    if call == CREATE:
        return create(planner, numbers[0])
    if planner.plan is None:
        return [NO_INSTANCE]
    if call <= NEXT_DAY or call == CANCEL_BEST:
        return execute_change(planner.plan, call, numbers)
    if call in (DEPENDENT_COMMITMENTS, IS_COVERED_WITH_DELIVERY, TOLERANCE_WITH_COMMITMENT):
        return execute_supposition(planner.plan, call, numbers)
    return execute_report(planner.plan, call, numbers)


def answers(calls):
    """For each call in order: how many numbers it answers, then these numbers."""
    planner = Planner()
    told = []
    place = 0
    while place < len(calls):
        call = calls[place]
        following = place + 1 + PARAMETER_COUNTS[call]
        result = execute(planner, call, calls[place + 1:following])
        told.append(len(result))
        told.extend(result)
        place = following
    return told
