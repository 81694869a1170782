"""create, the calls before there is an instance, and what answers does with the list."""

import time
import unittest

from coveredstock.planner import answers
from tests.asking import (
    ADD_COMMITMENT, ADD_COVERED_COMMITMENT, ADD_DELIVERY, ALL_BUT_CREATE, AVAILABLE, BEST_CANCELLATION, CANCEL_BEST,
    CANCEL_COMMITMENT, CREATE, DELIVERY_ARRIVED, DELIVERY_FAILED, DEPENDENT_COMMITMENTS, EARLIEST_DAY, FIRST_SHORTAGE,
    FULFILL_COMMITMENT, GREATEST, IS_COVERED, IS_COVERED_WITH_DELIVERY, LIST_COMMITMENTS, LIST_DELIVERIES, LOOK,
    LOOK_DEEPER, NEXT_DAY, SAFE_COMMITMENTS, SUMMARY, SURPLUS, TOLERANCE, TOLERANCE_WITH_COMMITMENT, ask, behind, days,
    flat, last,
)


class Unchanging(list):
    """A list that fails at the first try to change it."""

    def refuse(self, *arguments, **options):
        raise AssertionError("the list handed in is changed")

    append = extend = insert = pop = remove = clear = sort = reverse = refuse
    __setitem__ = __delitem__ = __iadd__ = __imul__ = refuse


class CreateTest(unittest.TestCase):
    def test_takes_a_stock_from_0_to_999(self):
        for stock in [0, 1, 10, 998, 999]:
            self.assertEqual(ask([(CREATE, stock)]), [[0]])

    def test_refuses_a_greater_stock(self):
        for stock in [1000, 1001, 65536, GREATEST - 1, GREATEST]:
            self.assertEqual(ask([(CREATE, stock)]), [[-22]])

    def test_starts_on_day_0_with_the_stock_and_nothing_else(self):
        for stock in [0, 7, 999]:
            self.assertEqual(
                ask([(CREATE, stock), (LIST_DELIVERIES,), (LIST_COMMITMENTS,), (IS_COVERED, 0), (ADD_DELIVERY, 1, 0, 0),
                     (DELIVERY_ARRIVED, 0), (NEXT_DAY,)]),
                [[0], [0], [0], [1], [0], [stock + 1], [1]])

    def test_replaces_an_instance(self):
        before = [(CREATE, 50), (NEXT_DAY,), (ADD_DELIVERY, 5, 1, 9), (ADD_COMMITMENT, 6, 8), (CREATE, 3)]
        self.assertEqual(behind(before, LOOK_DEEPER), behind([(CREATE, 3)], LOOK_DEEPER))
        self.assertEqual(behind(before, [(LIST_DELIVERIES,), (LIST_COMMITMENTS,), (NEXT_DAY,)]), [[0], [0], [1]])

    def test_a_refused_create_leaves_the_instance(self):
        before = [(CREATE, 50), (NEXT_DAY,), (ADD_DELIVERY, 5, 1, 9), (ADD_COMMITMENT, 6, 8)]
        for stock in [1000, GREATEST]:
            self.assertEqual(last(before + [(CREATE, stock)]), [-22])
            self.assertEqual(behind(before + [(CREATE, stock)], LOOK_DEEPER), behind(before, LOOK_DEEPER))
        self.assertEqual(
            behind(before + [(CREATE, 1000)], [(LIST_DELIVERIES,), (LIST_COMMITMENTS,), (FULFILL_COMMITMENT, 0),
                                               (NEXT_DAY,)]),
            [[1, 5, 1, 9], [1, 6, 8], [44], [2]])


class BeforeCreateTest(unittest.TestCase):
    def test_every_other_call_is_refused(self):
        for call in ALL_BUT_CREATE:
            self.assertEqual(ask([call]), [[-11]], call)

    def test_also_after_a_refused_create(self):
        for call in ALL_BUT_CREATE:
            self.assertEqual(ask([(CREATE, 1000), call]), [[-22], [-11]], call)
            self.assertEqual(ask([call, (CREATE, GREATEST), call]), [[-11], [-22], [-11]], call)

    def test_is_checked_before_every_other_error(self):
        wrong = [(call[0],) + (GREATEST,) * (len(call) - 1) for call in ALL_BUT_CREATE]
        self.assertEqual(ask(wrong), [[-11]] * len(wrong))

    def test_refused_calls_leave_nothing_behind(self):
        self.assertEqual(behind(ALL_BUT_CREATE + [(CREATE, 4)], LOOK_DEEPER), behind([(CREATE, 4)], LOOK_DEEPER))

    def test_no_call_is_refused_so_once_there_is_an_instance(self):
        for call in ALL_BUT_CREATE:
            self.assertNotEqual(last([(CREATE, 4), call]), [-11], call)


class ExampleTest(unittest.TestCase):
    def test_the_documents_example(self):
        self.assertEqual(
            ask([(CREATE, 10), (ADD_DELIVERY, 20, 2, 5), (ADD_DELIVERY, 15, 1, 8), (ADD_COMMITMENT, 8, 3),
                 (ADD_COMMITMENT, 18, 6), (IS_COVERED, 1), (TOLERANCE,), (FIRST_SHORTAGE, 1), (BEST_CANCELLATION, 1),
                 (DEPENDENT_COMMITMENTS, 0), (AVAILABLE, 0, 9), (DELIVERY_ARRIVED, 0), (NEXT_DAY,)]),
            [[0], [0], [1], [0], [1], [0], [0], [6, 16], [1, 1], [1, 1], [19], [-33], [1]])

    def test_the_documents_example_number_by_number(self):
        self.assertEqual(
            answers([0, 10, 1, 20, 2, 5, 1, 15, 1, 8, 2, 8, 3, 2, 18, 6, 11, 1, 15, 22, 1, 18, 1, 17, 0, 13, 0, 9, 5, 0,
                     8]),
            [1, 0, 1, 0, 1, 1, 1, 0, 1, 1, 1, 0, 1, 0, 2, 6, 16, 2, 1, 1, 2, 1, 1, 1, 19, 1, -33, 1, 1])


class ListTest(unittest.TestCase):
    LONG = [
        (CREATE, 10), (ADD_DELIVERY, 20, 2, 5), (ADD_DELIVERY, 15, 1, 8), (ADD_COMMITMENT, 8, 3),
        (ADD_COVERED_COMMITMENT, 0, 18, 6), (ADD_COVERED_COMMITMENT, 6, 99, 1), (IS_COVERED, 1), (NEXT_DAY,),
        (DELIVERY_ARRIVED, 1), (DELIVERY_FAILED, 0), (FULFILL_COMMITMENT, 0), (CANCEL_COMMITMENT, 0),
        (CANCEL_COMMITMENT, GREATEST), (LIST_DELIVERIES,), (LIST_COMMITMENTS,), (CREATE, 1000), (CREATE, 999),
        (ADD_DELIVERY, 9, 0, 4), (ADD_COMMITMENT, 99, 3), (SURPLUS, 1, 4), (AVAILABLE, 2, 30), (EARLIEST_DAY, 0, 905),
        (TOLERANCE,), (SAFE_COMMITMENTS, 3), (DEPENDENT_COMMITMENTS, 0), (BEST_CANCELLATION, 6),
        (IS_COVERED_WITH_DELIVERY, 99, 30, 6), (TOLERANCE_WITH_COMMITMENT, 99, 30), (FIRST_SHORTAGE, 0), (SUMMARY,),
        (CREATE, 5), (ADD_COMMITMENT, 7, 2), (SURPLUS, 0, 2), (SAFE_COMMITMENTS, 0), (BEST_CANCELLATION, 0),
        (FIRST_SHORTAGE, 0), (CANCEL_BEST, 0), (CANCEL_BEST, 0), (SUMMARY,),
    ]

    def test_answers_a_count_and_then_the_numbers_for_each_call(self):
        calls = [0, 10, 1, 20, 2, 5, 1, 15, 1, 8, 2, 8, 3, 9, 10, 11, 7, 11, 0]
        self.assertEqual(
            answers(calls),
            [1, 0, 1, 0, 1, 1, 1, 0, 7, 2, 20, 2, 5, 15, 1, 8, 3, 1, 8, 3, 1, -22, 1, 1])

    def test_every_answer_is_a_plain_whole_number(self):
        told = answers(flat(self.LONG))
        self.assertIs(type(told), list)
        self.assertEqual({type(number) for number in told}, {int})

    def test_the_list_handed_in_is_unchanged(self):
        for calls in [flat(self.LONG), flat([(CREATE, 1000)] + ALL_BUT_CREATE), [8]]:
            before = list(calls)
            answers(calls)
            self.assertEqual(calls, before)

    def test_the_long_list_asks_for_every_call(self):
        self.assertEqual({call[0] for call in self.LONG}, set(range(24)))
        self.assertEqual([(CREATE,)] + [call[:1] for call in ALL_BUT_CREATE], [(number,) for number in range(24)])

    def test_the_list_handed_in_is_not_changed_for_a_while_either(self):
        for calls in [flat(self.LONG), flat([(CREATE, 1000)] + ALL_BUT_CREATE), [8]]:
            self.assertEqual(answers(Unchanging(calls)), answers(calls))

    def test_a_second_time_answers_the_same(self):
        for calls in [flat(self.LONG), flat([(CREATE, 1000)] + ALL_BUT_CREATE), [8]]:
            first = answers(calls)
            kept = list(first)
            second = answers(calls)
            self.assertEqual(second, kept)
            self.assertIsNot(second, first)
            second.append(7)
            self.assertEqual(first, kept)

    def test_each_list_starts_without_an_instance(self):
        answers([CREATE, 10])
        self.assertEqual(answers([NEXT_DAY]), [1, -11])

    def test_takes_a_list_of_50_calls_and_of_200_numbers(self):
        calls = [(CREATE, 999)] + [(ADD_COVERED_COMMITMENT, 6, 99, 30)] * 49
        self.assertEqual(ask(calls), [[0]] + [[number] for number in range(7)] + [[-28]] * 42)
        calls = [(ADD_DELIVERY, 1, 1, 1)] * 50
        self.assertEqual(len(flat(calls)), 200)
        self.assertEqual(ask(calls), [[-11]] * 50)

    def test_50_calls_are_answered_within_seconds(self):
        # The shortage shows on the last day alone and every commitment must go, so there is nothing to be spared.
        calls = [(CREATE, 0)] + [(ADD_COMMITMENT, 99, 30)] * 7 + [(ADD_DELIVERY, 99, 30, 30)] * 6
        calls += [(BEST_CANCELLATION, 6)] * 33 + [(TOLERANCE,), (EARLIEST_DAY, 6, GREATEST), (CANCEL_BEST, 6)]
        begun = time.monotonic()
        results = ask(calls)
        self.assertLess(time.monotonic() - begun, 5)
        self.assertEqual(results[14:], [[7, 0, 1, 2, 3, 4, 5, 6]] * 33 + [[-33], [-33], [7]])

    def test_takes_a_list_of_one_call(self):
        self.assertEqual(answers([0, 999]), [1, 0])

    def test_looks_alike_for_like_instances(self):
        one = [(CREATE, 9), (ADD_COMMITMENT, 1, 1), (CANCEL_COMMITMENT, 0)]
        self.assertEqual(behind(one, LOOK), behind([(CREATE, 9)], LOOK))

    def test_day_30_is_reached(self):
        self.assertEqual(ask([(CREATE, 0)] + days(30)), [[0]] + [[day] for day in range(1, 31)])


if __name__ == "__main__":
    unittest.main()
