"""What is sure to be there by a day, and whether it is enough."""

from coveredstock.limits import LAST_DAY


def certain_supply(plan, k, day):
    """The stock and the deliveries that have come by the day, without the k greatest."""
    amounts = sorted([delivery.amount for delivery in plan.deliveries if delivery.latest <= day])
    # With more failures than deliveries, len - k is negative and would count from the list's end.
    kept = max(len(amounts) - k, 0)
    return plan.stock + sum(amounts[:kept])


def due_by(plan, day):
    """The sum of all commitments that are due on the day or before."""
    return sum([commitment.amount for commitment in plan.commitments if commitment.due <= day])


def surplus_by(plan, k, day):
    """What is left of the certain supply by the day; negative if there is a shortage."""
    return certain_supply(plan, k, day) - due_by(plan, day)


def covered_for(plan, k):
    """Whether no day from today on has a shortage with k failures."""
    for day in range(plan.today, LAST_DAY + 1):
        if surplus_by(plan, k, day) < 0:
            return False
    return True
