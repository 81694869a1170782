"""A second reckoning, straight from the document's words, to hold the program against."""

from itertools import combinations

from tests import asking


def covered_whichever_fail(today, stock, deliveries, commitments, k):
    """Point 1: every set of at most k deliveries fails in turn, the others arrive on their latest days."""
    for count in range(min(k, len(deliveries)) + 1):
        for failing in combinations(range(len(deliveries)), count):
            left = [one for number, one in enumerate(deliveries) if number not in failing]
            for day in range(today, 31):
                supply = stock + sum(amount for amount, earliest, latest in left if latest <= day)
                if supply < sum(amount for amount, due in commitments if due <= day):
                    return False
    return True


class Reckoning:
    """Executes calls by the document's words. Each gives back what it answers, a list of numbers."""

    def __init__(self):
        self.made = False
        self.today = None
        self.stock = None
        self.deliveries = None
        self.commitments = None

    def covered(self, k, more=()):
        return covered_whichever_fail(self.today, self.stock, self.deliveries, self.commitments + list(more), k)

    def execute(self, call):
        if call[0] == asking.CREATE:
            return self.create(call[1])
        if not self.made:
            return [-11]
        steps = {
            asking.ADD_DELIVERY: self.add_delivery,
            asking.ADD_COMMITMENT: self.add_commitment,
            asking.ADD_COVERED_COMMITMENT: self.add_covered_commitment,
            asking.CANCEL_COMMITMENT: self.cancel_commitment,
            asking.DELIVERY_ARRIVED: self.delivery_arrived,
            asking.DELIVERY_FAILED: self.delivery_failed,
            asking.FULFILL_COMMITMENT: self.fulfill_commitment,
            asking.NEXT_DAY: self.next_day,
            asking.LIST_DELIVERIES: self.list_deliveries,
            asking.LIST_COMMITMENTS: self.list_commitments,
            asking.IS_COVERED: self.is_covered,
        }
        return steps[call[0]](*call[1:])

    def create(self, stock):
        if stock not in range(1000):
            return [-22]
        self.made = True
        self.today, self.stock, self.deliveries, self.commitments = 0, stock, [], []
        return [0]

    def add_delivery(self, amount, earliest, latest):
        if amount not in range(1, 100) or latest < earliest or latest < self.today or latest > 30:
            return [-22]
        if len(self.deliveries) == 6:
            return [-28]
        self.deliveries = self.deliveries + [(amount, earliest, latest)]
        return [len(self.deliveries) - 1]

    def add_commitment(self, amount, due):
        if amount not in range(1, 100) or due < self.today or due > 30:
            return [-22]
        if len(self.commitments) == 7:
            return [-28]
        self.commitments = self.commitments + [(amount, due)]
        return [len(self.commitments) - 1]

    def add_covered_commitment(self, k, amount, due):
        if k > 6 or amount not in range(1, 100) or due < self.today or due > 30:
            return [-22]
        if len(self.commitments) == 7:
            return [-28]
        if not self.covered(k, [(amount, due)]):
            return [-30]
        return self.add_commitment(amount, due)

    def cancel_commitment(self, commitment):
        if commitment not in range(len(self.commitments)):
            return [-2]
        self.commitments = self.commitments[:commitment] + self.commitments[commitment + 1:]
        return [len(self.commitments)]

    def delivery_arrived(self, delivery):
        if delivery not in range(len(self.deliveries)):
            return [-2]
        amount, earliest, latest = self.deliveries[delivery]
        if self.today < earliest:
            return [-33]
        self.deliveries = self.deliveries[:delivery] + self.deliveries[delivery + 1:]
        self.stock += amount
        return [self.stock]

    def delivery_failed(self, delivery):
        if delivery not in range(len(self.deliveries)):
            return [-2]
        self.deliveries = self.deliveries[:delivery] + self.deliveries[delivery + 1:]
        return [len(self.deliveries)]

    def fulfill_commitment(self, commitment):
        if commitment not in range(len(self.commitments)):
            return [-2]
        amount, due = self.commitments[commitment]
        if self.stock < amount:
            return [-19]
        self.commitments = self.commitments[:commitment] + self.commitments[commitment + 1:]
        self.stock -= amount
        return [self.stock]

    def next_day(self):
        if any(due <= self.today for amount, due in self.commitments):
            return [-30]
        if any(latest <= self.today for amount, earliest, latest in self.deliveries):
            return [-33]
        if self.today == 30:
            return [-75]
        self.today += 1
        return [self.today]

    def list_deliveries(self):
        return [len(self.deliveries)] + asking.flat(self.deliveries)

    def list_commitments(self):
        return [len(self.commitments)] + asking.flat(self.commitments)

    def is_covered(self, k):
        if k > 6:
            return [-22]
        return [int(self.covered(k))]
