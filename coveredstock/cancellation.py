"""Which commitments are best cancelled if not all of them are covered."""

from coveredstock.coverage import covered_for
from coveredstock.state import supposed_plan


def sets_of_numbers(count):
    """Every set of the numbers below count, each in increasing order; the place of a set is its set number."""
    sets = [[]]
    for number in range(count):
        sets = sets + [members + [number] for members in sets]
    return sets


def cancel_members(plan, members):
    """Removes the commitments with these numbers, which are in increasing order."""
    # From the last to the first: taking one out moves those behind it.
    for number in reversed(members):
        plan.commitments.pop(number)


def others_covered(plan, members, k):
    """Whether the commitments that are not among the members would be covered for k by themselves."""
    supposed = supposed_plan(plan)
    cancel_members(supposed, members)
    return covered_for(supposed, k)


def total_amount(plan, members):
    return sum([plan.commitments[number].amount for number in members])


def best_members(plan, k):
    """The numbers of the commitments in the best cancellation for k, in increasing order."""
    sets = sets_of_numbers(len(plan.commitments))
    fitting = [place for place in range(len(sets)) if others_covered(plan, sets[place], k)]
    # The least of these is the smallest set, then the one of the smaller total, then of the smaller set number.
    ranks = [(len(sets[place]), total_amount(plan, sets[place]), place) for place in fitting]
    return sets[min(ranks)[2]]
