"""A second reckoning, straight from the document's words, to hold the program against."""

from functools import lru_cache
from itertools import combinations

from tests import asking


@lru_cache(maxsize=5000)
def least_arriving(deliveries, k):
    """What has arrived by each day from 0 to 30 at the least, over every set of at most k deliveries that fail."""
    least = [sum(amount for amount, earliest, latest in deliveries)] * 31
    for count in range(min(k, len(deliveries)) + 1):
        for failing in combinations(range(len(deliveries)), count):
            left = [one for number, one in enumerate(deliveries) if number not in failing]
            for day in range(31):
                least[day] = min(least[day], sum(amount for amount, earliest, latest in left if latest <= day))
    return tuple(least)


def surpluses(today, stock, deliveries, commitments, k):
    """The surplus of each day from today to 30."""
    least = least_arriving(tuple(deliveries), k)
    return {day: stock + least[day] - sum(amount for amount, due in commitments if due <= day)
            for day in range(today, 31)}


def members_of(number):
    """The members of the set with this number."""
    return [member for member in range(7) if number & (1 << member)]


def without(commitments, members):
    return [one for number, one in enumerate(commitments) if number not in members]


def best_cancellation(today, stock, deliveries, commitments, k):
    """The members of the best cancellation: every set is looked at, and each tie is broken by itself."""
    fitting = []
    for number in range(2 ** len(commitments)):
        left = without(commitments, members_of(number))
        if min(surpluses(today, stock, deliveries, left, k).values()) >= 0:
            fitting.append(number)
    fewest = min(len(members_of(number)) for number in fitting)
    fitting = [number for number in fitting if len(members_of(number)) == fewest]
    totals = {number: sum(commitments[member][0] for member in members_of(number)) for number in fitting}
    return members_of(min(number for number in fitting if totals[number] == min(totals.values())))


def covered_whichever_fail(today, stock, deliveries, commitments, k):
    """Point 1: every set of at most k deliveries fails in turn, the others arrive on their latest days."""
    for count in range(min(k, len(deliveries)) + 1):
        for failing in combinations(range(len(deliveries)), count):
            left = [one for number, one in enumerate(deliveries) if number not in failing]
            for day in range(today, 31):
                supply = stock + sum(amount for amount, earliest, latest in left if latest <= day)
                if supply < sum(amount for amount, due in commitments if due <= day):
                    return False
    return True


class Reckoning:
    """Executes calls by the document's words. Each gives back what it answers, a list of numbers."""

    def __init__(self):
        self.made = False
        self.today = None
        self.stock = None
        self.deliveries = None
        self.commitments = None
        self.arrived = None
        self.failed = None
        self.fulfilled = None

    def covered(self, k, more=()):
        """Point 1 on this instance, with further commitments."""
        return covered_whichever_fail(self.today, self.stock, self.deliveries, self.commitments + list(more), k)

    def execute(self, call):
        if call[0] == asking.CREATE:
            return self.create(call[1])
        if not self.made:
            return [-11]
        steps = {
            asking.ADD_DELIVERY: self.add_delivery,
            asking.ADD_COMMITMENT: self.add_commitment,
            asking.ADD_COVERED_COMMITMENT: self.add_covered_commitment,
            asking.CANCEL_COMMITMENT: self.cancel_commitment,
            asking.DELIVERY_ARRIVED: self.delivery_arrived,
            asking.DELIVERY_FAILED: self.delivery_failed,
            asking.FULFILL_COMMITMENT: self.fulfill_commitment,
            asking.NEXT_DAY: self.next_day,
            asking.LIST_DELIVERIES: self.list_deliveries,
            asking.LIST_COMMITMENTS: self.list_commitments,
            asking.IS_COVERED: self.is_covered,
            asking.SURPLUS: self.surplus,
            asking.AVAILABLE: self.available,
            asking.EARLIEST_DAY: self.earliest_day,
            asking.TOLERANCE: self.tolerance,
            asking.SAFE_COMMITMENTS: self.safe_commitments,
            asking.DEPENDENT_COMMITMENTS: self.dependent_commitments,
            asking.BEST_CANCELLATION: self.best_cancellation,
            asking.CANCEL_BEST: self.cancel_best,
            asking.IS_COVERED_WITH_DELIVERY: self.is_covered_with_delivery,
            asking.TOLERANCE_WITH_COMMITMENT: self.tolerance_with_commitment,
            asking.FIRST_SHORTAGE: self.first_shortage,
            asking.SUMMARY: self.summary,
        }
        return steps[call[0]](*call[1:])

    def create(self, stock):
        if stock not in range(1000):
            return [-22]
        self.made = True
        self.today, self.stock, self.deliveries, self.commitments = 0, stock, [], []
        self.arrived, self.failed, self.fulfilled = 0, 0, 0
        return [0]

    def add_delivery(self, amount, earliest, latest):
        if amount not in range(1, 100) or latest < earliest or latest < self.today or latest > 30:
            return [-22]
        if len(self.deliveries) == 6:
            return [-28]
        self.deliveries = self.deliveries + [(amount, earliest, latest)]
        return [len(self.deliveries) - 1]

    def add_commitment(self, amount, due):
        if amount not in range(1, 100) or due < self.today or due > 30:
            return [-22]
        if len(self.commitments) == 7:
            return [-28]
        self.commitments = self.commitments + [(amount, due)]
        return [len(self.commitments) - 1]

    def add_covered_commitment(self, k, amount, due):
        if k > 6 or amount not in range(1, 100) or due < self.today or due > 30:
            return [-22]
        if len(self.commitments) == 7:
            return [-28]
        if not self.covered(k, [(amount, due)]):
            return [-30]
        return self.add_commitment(amount, due)

    def cancel_commitment(self, commitment):
        if commitment not in range(len(self.commitments)):
            return [-2]
        self.commitments = self.commitments[:commitment] + self.commitments[commitment + 1:]
        return [len(self.commitments)]

    def delivery_arrived(self, delivery):
        if delivery not in range(len(self.deliveries)):
            return [-2]
        amount, earliest, latest = self.deliveries[delivery]
        if self.today < earliest:
            return [-33]
        self.deliveries = self.deliveries[:delivery] + self.deliveries[delivery + 1:]
        self.stock += amount
        self.arrived += 1
        return [self.stock]

    def delivery_failed(self, delivery):
        if delivery not in range(len(self.deliveries)):
            return [-2]
        self.deliveries = self.deliveries[:delivery] + self.deliveries[delivery + 1:]
        self.failed += 1
        return [len(self.deliveries)]

    def fulfill_commitment(self, commitment):
        if commitment not in range(len(self.commitments)):
            return [-2]
        amount, due = self.commitments[commitment]
        if self.stock < amount:
            return [-19]
        self.commitments = self.commitments[:commitment] + self.commitments[commitment + 1:]
        self.stock -= amount
        self.fulfilled += 1
        return [self.stock]

    def next_day(self):
        if any(due <= self.today for amount, due in self.commitments):
            return [-30]
        if any(latest <= self.today for amount, earliest, latest in self.deliveries):
            return [-33]
        if self.today == 30:
            return [-75]
        self.today += 1
        return [self.today]

    def list_deliveries(self):
        return [len(self.deliveries)] + asking.flat(self.deliveries)

    def list_commitments(self):
        return [len(self.commitments)] + asking.flat(self.commitments)

    def is_covered(self, k):
        if k > 6:
            return [-22]
        return [int(self.covered(k))]

    def surpluses(self, k):
        return surpluses(self.today, self.stock, self.deliveries, self.commitments, k)

    def surplus(self, k, day):
        if k > 6 or day > 30 or day < self.today:
            return [-22]
        due = sum(amount for amount, last in self.commitments if last <= day)
        difference = self.surpluses(k)[day]
        return [int(difference >= 0), abs(difference), difference + due, due]

    def available(self, k, day):
        if k > 6 or day > 30 or day < self.today:
            return [-22]
        amount = min(surplus for later, surplus in self.surpluses(k).items() if later >= day)
        return [amount] if amount >= 0 else [-33]

    def earliest_day(self, k, amount):
        if k > 6 or amount == 0:
            return [-22]
        days = [day for day in range(self.today, 31) if self.available(k, day)[0] >= amount]
        return [days[0]] if days else [-33]

    def tolerance(self):
        covered = [k for k in range(len(self.deliveries) + 1) if min(self.surpluses(k).values()) >= 0]
        return [covered[-1]] if 0 in covered else [-33]

    def safe(self, deliveries, k):
        left = surpluses(self.today, self.stock, deliveries, self.commitments, k)
        return [number for number, (amount, due) in enumerate(self.commitments)
                if all(left[day] >= 0 for day in range(self.today, due + 1))]

    def safe_commitments(self, k):
        if k > 6:
            return [-22]
        safe = self.safe(self.deliveries, k)
        return [len(safe)] + safe

    def dependent_commitments(self, delivery):
        if delivery not in range(len(self.deliveries)):
            return [-2]
        left = self.safe(self.deliveries[:delivery] + self.deliveries[delivery + 1:], 0)
        dependent = [number for number in self.safe(self.deliveries, 0) if number not in left]
        return [len(dependent)] + dependent

    def best_members(self, k):
        return best_cancellation(self.today, self.stock, self.deliveries, self.commitments, k)

    def best_cancellation(self, k):
        if k > 6:
            return [-22]
        members = self.best_members(k)
        return [len(members)] + members

    def cancel_best(self, k):
        if k > 6:
            return [-22]
        members = self.best_members(k)
        self.commitments = without(self.commitments, members)
        return [len(members)]

    def is_covered_with_delivery(self, amount, latest, k):
        if amount not in range(1, 100) or latest < self.today or latest > 30 or k > 6:
            return [-22]
        if len(self.deliveries) == 6:
            return [-28]
        more = self.deliveries + [(amount, 0, latest)]
        return [int(covered_whichever_fail(self.today, self.stock, more, self.commitments, k))]

    def tolerance_with_commitment(self, amount, due):
        before = self.commitments
        result = self.add_commitment(amount, due)
        if result[0] >= 0:
            result = self.tolerance()
        self.commitments = before
        return result

    def first_shortage(self, k):
        if k > 6:
            return [-22]
        short = [(day, -surplus) for day, surplus in self.surpluses(k).items() if surplus < 0]
        return list(min(short)) if short else [-33]

    def summary(self):
        return [self.today, self.stock, len(self.deliveries), len(self.commitments),
                self.arrived, self.failed, self.fulfilled]
