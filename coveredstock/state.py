"""What an instance holds."""


class Delivery:
    """An announced amount that arrives from its earliest to its latest day, or fails."""

    def __init__(self, amount, earliest, latest):
        self.amount = amount
        self.earliest = earliest
        self.latest = latest


class Commitment:
    """An amount that is due on a day."""

    def __init__(self, amount, due):
        self.amount = amount
        self.due = due


class Plan:
    """One instance. A delivery or commitment is numbered by its place in its list."""

    def __init__(self, stock):
        self.today = 0
        self.stock = stock
        self.deliveries = []
        self.commitments = []
        self.arrived = 0
        self.failed = 0
        self.fulfilled = 0


def supposed_plan(plan):
    """A plan of the same day and stock with lists of its own, to ask what would be without changing what is."""
    supposed = Plan(plan.stock)
    supposed.today = plan.today
    supposed.deliveries = list(plan.deliveries)
    supposed.commitments = list(plan.commitments)
    return supposed
