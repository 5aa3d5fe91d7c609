"""begin, point, load, remove, cap, day, code: answers, refusals and their edges, and what they change."""

import unittest

from helper import GREATEST_WHOLE, LEAST_WHOLE, adopt, ask, begin, cap, code, day, judge, last, load, plan
from helper import point, points_behind_one_another, remove, told_plan, town_with_stretches

from postdistricts.actions import put_point
from postdistricts.records import Town
from postdistricts.refusals import TooMany


class Begin(unittest.TestCase):
    def test_answers_zero_at_the_edges(self):
        for grace, limit in [(0, 1), (1000, 1000000), (30, 100)]:
            self.assertEqual(last([begin(grace, limit)]), [0])

    def test_refuses_outside_of_the_ranges(self):
        for grace, limit in [(-1, 1), (1001, 1), (0, 0), (0, 1000001), (LEAST_WHOLE, 1), (5, GREATEST_WHOLE),
                             (-1, 0), (GREATEST_WHOLE, LEAST_WHOLE)]:
            self.assertEqual(last([begin(grace, limit)]), [-1])

    def test_a_refusal_changes_nothing(self):
        for grace, limit in [(1001, 7), (5, 0)]:
            calls = [begin(5, 70), point(0, 3), day(4), begin(grace, limit), code(1), day(0), cap(1)]
            self.assertEqual(ask(calls)[-3:], [[0, 2, 0, 3], [4], [70]])

    def test_all_is_new(self):
        calls = [point(0, 3), day(4), adopt(), remove(1), begin(7, 9), day(0), cap(9), code(1), point(0, 1), plan()]
        expected = [[0], [0], [9], [-4], [1], told_plan([(1, 100)], 0)]
        self.assertEqual(ask(calls)[4:], expected)

    def test_retired_codes_are_forgotten(self):
        self.assertEqual(last([point(0, 1), adopt(), remove(1), point(0, 1), plan()]), told_plan([(1, 101)], 0))
        self.assertEqual(last([point(0, 1), adopt(), remove(1), begin(30, 1), point(0, 1), plan()]),
                         told_plan([(1, 100)], 0))

    def test_a_line_begins_with_day_0_grace_30_cap_100_and_no_points(self):
        self.assertEqual(ask([day(0), cap(1), plan(), code(1)]), [[0], [100], told_plan([], 0), [-4]])
        gone = [point(0, 1), adopt(), remove(1), point(0, 1)]
        self.assertEqual(last(gone + [day(30), plan()]), told_plan([(1, 101)], 0))
        self.assertEqual(last(gone + [day(31), plan()]), told_plan([(1, 100)], 0))

    def test_grace_is_the_one_told(self):
        gone = [begin(2, 1), point(0, 1), adopt(), remove(1), point(0, 1)]
        self.assertEqual(last(gone + [day(2), plan()]), told_plan([(1, 101)], 0))
        self.assertEqual(last(gone + [day(3), plan()]), told_plan([(1, 100)], 0))


class PutPoint(unittest.TestCase):
    def test_answers_numbers_in_the_order_of_putting_in(self):
        self.assertEqual(ask([point(0, 5), point(0, 6), point(1, 7)]), [[1], [2], [3]])

    def test_stands_at_its_place(self):
        # Loads tell the order: with cap 3 only this order of 1, 2, 3 parts into 1+2 and 3.
        calls = [begin(30, 3), point(0, 3), point(0, 1), point(1, 2), plan()]
        self.assertEqual(last(calls), told_plan([(2, 100), (1, 101)], 0))

    def test_edges_of_the_ranges(self):
        self.assertEqual(ask([point(0, 0), point(1, 1000000)]), [[1], [2]])
        for place, weight in [(-1, 0), (1, 0), (0, -1), (0, 1000001), (LEAST_WHOLE, 0), (0, GREATEST_WHOLE)]:
            self.assertEqual(last([point(place, weight)]), [-1])
        self.assertEqual(last([point(0, 0), point(2, 0)]), [-1])

    def test_a_refusal_takes_no_number(self):
        self.assertEqual(ask([point(1, 0), point(0, -1), point(0, 0), code(1), code(2)]),
                         [[-1], [-1], [1], [0, 2, 0, 0], [-4]])

    def test_has_no_code_where_there_is_none_but_a_day(self):
        calls = [day(3), point(0, 5), day(2), point(0, 6), point(1, 7), point(3, 8)]
        told = [code(number) for number in (1, 2, 3, 4)]
        self.assertEqual(ask(calls + told)[-4:], [[0, 2, 3, 5], [0, 2, 5, 6], [0, 2, 5, 7], [0, 2, 5, 8]])

    def test_has_the_code_of_the_point_before_it(self):
        town = [begin(30, 5), point(0, 5), point(1, 5), point(2, 5), adopt(), day(7)]
        for place, expected in [(1, 100), (2, 101), (3, 102)]:
            self.assertEqual(last(town + [point(place, 4), code(4)]), [expected, 2, 7, 4])

    def test_the_first_has_the_code_of_the_point_behind_it(self):
        town = [begin(30, 5), point(0, 5), point(1, 5), remove(1), point(0, 5), adopt(), remove(3), day(7)]
        self.assertEqual(last(town + [point(0, 4), code(4)]), [101, 2, 7, 4])

    def test_none_again_when_all_are_taken_away(self):
        self.assertEqual(last([point(0, 1), adopt(), remove(1), day(1), point(0, 2), code(2)]), [0, 2, 1, 2])

    def test_numbers_are_never_given_again(self):
        calls = [point(0, 1), point(0, 1), remove(2), point(0, 1), remove(3), remove(1), point(0, 1)]
        self.assertEqual(ask(calls), [[1], [2], [0], [3], [0], [0], [4]])

    def test_forty_points_are_the_most(self):
        forty = points_behind_one_another([0] * 40)
        self.assertEqual(ask(forty), [[number] for number in range(1, 41)])
        self.assertEqual(ask(forty + [point(40, 0), code(41), plan()])[-3:], [[-8], [-4], told_plan([(40, 100)], 0)])
        self.assertEqual(ask(forty + [point(0, 1), remove(7), point(0, 1)])[-3:], [[-8], [0], [41]])

    def test_the_range_is_refused_before_the_number_of_points(self):
        forty = points_behind_one_another([0] * 40)
        for place, weight in [(41, 0), (-1, 0), (0, -1), (0, 1000001)]:
            self.assertEqual(last(forty + [point(place, weight)]), [-1])

    def test_the_greatest_number(self):
        # No line is long enough to come there, so the town is set up by hand.
        town = Town(30, 100)
        town.numbers_given = 999999
        self.assertEqual(put_point(town, 0, 1), [1000000])
        with self.assertRaises(TooMany):
            put_point(town, 0, 1)
        self.assertEqual((len(town.points), town.numbers_given), (1, 1000000))


class ChangeLoad(unittest.TestCase):
    def test_answers_the_load_before(self):
        calls = [point(0, 5), point(0, 6), load(1, 0), load(1, 1000000), load(1, 7), code(1), code(2)]
        self.assertEqual(ask(calls)[2:], [[5], [0], [1000000], [0, 2, 0, 7], [0, 2, 0, 6]])

    def test_refusals(self):
        town = [point(0, 5), point(0, 6), remove(2)]
        for number, weight, expected in [(1, -1, -1), (1, 1000001, -1), (0, 1, -1), (1000001, 1, -1), (2, 1, -4),
                                         (3, 1, -4), (1000000, 1, -4), (2, -1, -1), (LEAST_WHOLE, 0, -1),
                                         (1, GREATEST_WHOLE, -1), (0, -1, -1), (-1, 5, -1)]:
            self.assertEqual(ask(town + [load(number, weight), code(1)])[-2:], [[expected], [0, 2, 0, 5]])

    def test_the_new_load_counts_in_the_plan(self):
        town = [begin(30, 10), point(0, 5), point(1, 5)]
        self.assertEqual(last(town + [plan()]), told_plan([(2, 100)], 0))
        self.assertEqual(last(town + [load(2, 6), plan()]), told_plan([(1, 100), (1, 101)], 0))
        self.assertEqual(last(town + [load(2, 11), plan()]), [-7])

    def test_the_code_and_its_day_stay(self):
        self.assertEqual(last([point(0, 1), adopt(), day(2), load(1, 9), code(1)]), [100, 2, 0, 9])


class Remove(unittest.TestCase):
    def test_answers_its_code(self):
        self.assertEqual(ask([point(0, 1), remove(1), code(1)]), [[1], [0], [-4]])
        self.assertEqual(ask([point(0, 1), adopt(), remove(1), remove(1)])[2:], [[100], [-4]])

    def test_refusals(self):
        for number, expected in [(0, -1), (-1, -1), (1000001, -1), (2, -4), (1000000, -4), (LEAST_WHOLE, -1),
                                 (GREATEST_WHOLE, -1)]:
            self.assertEqual(ask([point(0, 5), remove(number), code(1)])[-2:], [[expected], [0, 2, 0, 5]])

    def test_the_others_stay_in_order(self):
        calls = [begin(30, 4)] + points_behind_one_another([1, 4, 3]) + [remove(2), plan(), judge([1, 1], [100, 101])]
        self.assertEqual(ask(calls)[-2:], [told_plan([(2, 100)], 0), [1, 2, 2, 0]])

    def test_the_code_of_the_last_point_is_retired(self):
        town = town_with_stretches([1, 1], grace=2) + [day(4), remove(1)]
        for days, expected in [(0, [0]), (2, [0]), (3, [1, 2, 1, 0])]:
            self.assertEqual(last(town + [day(days), judge([1], [100])]), expected)

    def test_a_code_that_some_point_still_has_is_not_retired(self):
        town = town_with_stretches([2, 1], grace=2) + [remove(1)]
        self.assertEqual(last(town + [judge([1, 1], [100, 101])]), [1, 2, 2, 2])
        # Not retired on day 0, it is retired on day 5, and only then the grace begins.
        later = town + [day(5), remove(3)]
        self.assertEqual(last(later + [day(2), judge([1], [100])]), [0])
        self.assertEqual(last(later + [day(3), judge([1], [100])]), [1, 2, 1, 0])

    def test_no_code_is_not_retired(self):
        calls = [point(0, 1), remove(1), point(0, 1), plan(), adopt()]
        self.assertEqual(ask(calls)[-2:], [told_plan([(1, 100)], 0), [1, 2, 1, 0]])


class Cap(unittest.TestCase):
    def test_answers_the_cap_before(self):
        self.assertEqual(ask([cap(1), cap(1000000), cap(5)]), [[100], [1], [1000000]])

    def test_refusals_change_nothing(self):
        for limit in (0, -1, 1000001, LEAST_WHOLE, GREATEST_WHOLE):
            self.assertEqual(ask([cap(7), cap(limit), cap(8)])[1:], [[-1], [7]])

    def test_the_new_cap_counts(self):
        self.assertEqual(ask([point(0, 50), cap(49), plan(), cap(50), plan()])[2:],
                         [[-7], [49], told_plan([(1, 100)], 0)])


class Day(unittest.TestCase):
    def test_answers_the_day_then(self):
        self.assertEqual(ask([day(0), day(1), day(1000), day(0)]), [[0], [1], [1001], [1001]])

    def test_refusals_change_nothing(self):
        for days in (-1, 1001, LEAST_WHOLE, GREATEST_WHOLE):
            self.assertEqual(ask([day(3), day(days), day(0)])[1:], [[-1], [3]])

    def test_the_last_day(self):
        most = [day(1000)] * 99
        self.assertEqual(ask(most + [day(999), day(2), day(1), day(1), day(0)])[99:],
                         [[99999], [-8], [100000], [-8], [100000]])

    def test_the_range_is_refused_before_the_last_day(self):
        self.assertEqual(ask([day(1000)] * 100 + [day(1001), day(1000)])[100:], [[-1], [-8]])


class Code(unittest.TestCase):
    def test_answers_code_since_and_load(self):
        calls = [day(2), point(0, 5), code(1), day(3), adopt(), day(4), code(1)]
        self.assertEqual([ask(calls)[2], ask(calls)[-1]], [[0, 2, 2, 5], [100, 2, 5, 5]])

    def test_refusals(self):
        for number, expected in [(0, -1), (-1, -1), (1000001, -1), (2, -4), (1000000, -4), (LEAST_WHOLE, -1),
                                 (GREATEST_WHOLE, -1)]:
            self.assertEqual(last([point(0, 5), code(number)]), [expected])


if __name__ == "__main__":
    unittest.main()
