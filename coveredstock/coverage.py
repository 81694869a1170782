"""What is sure to be there by a day, and whether it is enough."""

from coveredstock.limits import LAST_DAY


def certain_supply(plan, k, day):
    """The stock and the deliveries that have come by the day, without the k greatest."""
    amounts = sorted([delivery.amount for delivery in plan.deliveries if delivery.latest <= day])
    # With more failures than deliveries, len - k is negative and would count from the list's end.
    kept = max(len(amounts) - k, 0)
    return plan.stock + sum(amounts[:kept])


def due_by(plan, day):
    """The sum of all commitments that are due on the day or before."""
    return sum([commitment.amount for commitment in plan.commitments if commitment.due <= day])


def surplus_by(plan, k, day):
    """What is left of the certain supply by the day; negative if there is a shortage."""
    return certain_supply(plan, k, day) - due_by(plan, day)


def first_short_day(plan, k):
    """The first day from today on that has a shortage with k failures; None if no day has one."""
    for day in range(plan.today, LAST_DAY + 1):
        if surplus_by(plan, k, day) < 0:
            return day
    return None


def covered_for(plan, k):
    """Whether no day from today on has a shortage with k failures."""
    return first_short_day(plan, k) is None


def available_for(plan, k, day):
    """How much more can be due on the day without a shortage then or later; negative if there is one already."""
    return min([surplus_by(plan, k, later) for later in range(day, LAST_DAY + 1)])


def most_failures_covered(plan):
    """The greatest number of failing deliveries for which all is covered; None if it isn't even for 0."""
    for k in range(len(plan.deliveries), -1, -1):
        if covered_for(plan, k):
            return k
    return None


def safe_numbers(plan, k):
    """The numbers of the commitments that are due before any shortage with k failures."""
    numbers = list(range(len(plan.commitments)))
    short = first_short_day(plan, k)
    if short is None:
        return numbers
    return [number for number in numbers if plan.commitments[number].due < short]
