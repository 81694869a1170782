"""Executes a list of calls, and gives back what they answer."""

from coveredstock.changes import add_commitment, add_covered_commitment, add_delivery, cancel_commitment
from coveredstock.changes import delivery_arrived, delivery_failed, fulfill_commitment, next_day
from coveredstock.limits import MOST_STOCK, NO_INSTANCE, OUT_OF_RANGE
from coveredstock.reports import is_covered, list_commitments, list_deliveries
from coveredstock.state import Plan

CREATE = 0
ADD_DELIVERY = 1
ADD_COMMITMENT = 2
ADD_COVERED_COMMITMENT = 3
CANCEL_COMMITMENT = 4
DELIVERY_ARRIVED = 5
DELIVERY_FAILED = 6
FULFILL_COMMITMENT = 7
NEXT_DAY = 8
LIST_DELIVERIES = 9
LIST_COMMITMENTS = 10

# How many whole numbers each call is handed, at the place of its number: from create to is_covered.
PARAMETER_COUNTS = (1, 3, 2, 3, 1, 1, 1, 1, 0, 0, 0, 1)


class Planner:
    """Keeps the instance, which is None until a create has succeeded."""

    def __init__(self):
        self.plan = None


def create(planner, stock):
    if stock > MOST_STOCK:
        return [OUT_OF_RANGE]
    planner.plan = Plan(stock)
    return [0]


def execute_change(plan, call, numbers):
    """Executes a call from add_delivery to next_day."""
    if call == ADD_DELIVERY:
        return add_delivery(plan, numbers[0], numbers[1], numbers[2])
    if call == ADD_COMMITMENT:
        return add_commitment(plan, numbers[0], numbers[1])
    if call == ADD_COVERED_COMMITMENT:
        return add_covered_commitment(plan, numbers[0], numbers[1], numbers[2])
    if call == CANCEL_COMMITMENT:
        return cancel_commitment(plan, numbers[0])
    if call == DELIVERY_ARRIVED:
        return delivery_arrived(plan, numbers[0])
    if call == DELIVERY_FAILED:
        return delivery_failed(plan, numbers[0])
    if call == FULFILL_COMMITMENT:
        return fulfill_commitment(plan, numbers[0])
    return next_day(plan)


def execute_report(plan, call, numbers):
    """Executes a call from list_deliveries to is_covered."""
    if call == LIST_DELIVERIES:
        return list_deliveries(plan)
    if call == LIST_COMMITMENTS:
        return list_commitments(plan)
    return is_covered(plan, numbers[0])


def execute(planner, call, numbers):
    if call == CREATE:
        return create(planner, numbers[0])
    if planner.plan is None:
        return [NO_INSTANCE]
    if call <= NEXT_DAY:
        return execute_change(planner.plan, call, numbers)
    return execute_report(planner.plan, call, numbers)


def answers(calls):
    """For each call in order: how many numbers it answers, then these numbers."""
    planner = Planner()
    told = []
    place = 0
    while place < len(calls):
        call = calls[place]
        following = place + 1 + PARAMETER_COUNTS[call]
        result = execute(planner, call, calls[place + 1:following])
        told.append(len(result))
        told.extend(result)
        place = following
    return told
