"""judge: partings that might be, each way in which a row of sizes and codes is none, and -2."""

import unittest

from helper import GREATEST_WHOLE, LEAST_WHOLE, adopt, ask, begin, cap, code, day, judge, last, plan, point
from helper import points_behind_one_another, remove, told_plan, town_with_stretches


class MightBe(unittest.TestCase):
    def check(self, sizes, codes, expected, town=None):
        if town is None:
            # Codes 100 100 101 102 102 102, all loads 1.
            town = town_with_stretches([2, 1, 3]) + [cap(3)]
        self.assertEqual(last(town + [judge(sizes, codes)]), expected)

    def test_all_points_keep_their_code(self):
        self.check([2, 1, 3], [100, 101, 102], [1, 2, 3, 6])

    def test_more_districts_than_need_be(self):
        self.check([1, 1, 1, 1, 1, 1], [100, 103, 101, 102, 104, 105], [1, 2, 6, 3])

    def test_codes_of_points_elsewhere_and_new_ones(self):
        self.check([3, 3], [102, 100], [1, 2, 2, 0])
        self.check([3, 3], [999, 103], [1, 2, 2, 0])
        self.check([3, 3], [101, 998], [1, 2, 2, 1])

    def test_a_size_of_0(self):
        self.check([3, 0, 3], [100, 101, 102], [0])
        self.check([3, 3, 0], [100, 101, 102], [0])

    def test_too_few_points_or_too_many(self):
        self.check([2, 3], [100, 102], [0])
        self.check([3, 3, 1], [100, 101, 102], [0])
        self.check([1000], [100], [0])
        self.check([], [], [0])

    def test_not_as_many_sizes_as_codes(self):
        self.check([3, 3], [100], [0])
        self.check([3, 3], [100, 101, 102], [0])
        self.check([3, 3], [], [0])
        self.check([], [100], [0])

    def test_codes_alike(self):
        self.check([3, 3], [100, 100], [0])
        self.check([3, 3], [500, 500], [0])
        self.check([2, 1, 3], [100, 101, 100], [0])

    def test_codes_that_are_none(self):
        for number in (0, 1, 99, 1000):
            self.check([3, 3], [100, number], [0])
        for number in (103, 999):
            self.check([3, 3], [100, number], [1, 2, 2, 2])

    def test_points_without_a_code_do_not_have_the_code_0(self):
        town = [point(0, 1)]
        self.check([1], [0], [0], town)
        self.check([1], [100], [1, 2, 1, 0], town)

    def test_codes_that_may_not_be_given(self):
        town = [begin(3, 1)] + points_behind_one_another([1, 1]) + [adopt(), day(2), remove(2)]
        self.check([1], [101], [0], town)
        self.check([1], [101], [0], town + [day(3)])
        self.check([1], [101], [1, 2, 1, 0], town + [day(4)])

    def test_loads_above_the_cap(self):
        town = [begin(30, 5)] + points_behind_one_another([2, 3, 1, 4])
        self.check([2, 2], [100, 101], [1, 2, 2, 0], town)
        self.check([1, 3], [100, 101], [0], town)
        self.check([3, 1], [100, 101], [0], town)
        self.check([1, 1, 1, 1], [100, 101, 102, 103], [0], town + [cap(3)])

    def test_no_points(self):
        self.check([], [], [1, 2, 0, 0], [begin(30, 1)])
        self.check([0], [100], [0], [begin(30, 1)])
        self.check([1], [100], [0], [begin(30, 1)])

    def test_long_rows(self):
        self.check([1] * 400, [100] * 400, [0])
        self.check([0] * 400, list(range(100, 500)), [0])
        forty = [begin(30, 1)] + points_behind_one_another([1] * 40)
        self.check([1] * 40, list(range(960, 1000)), [1, 2, 40, 0], forty)


class NotAsTold(unittest.TestCase):
    def test_numbers_outside_of_the_range(self):
        town = [point(0, 1)]
        for number in (-1, 1001, LEAST_WHOLE, GREATEST_WHOLE):
            self.assertEqual(last(town + [judge([number], [100])]), [-2])
            self.assertEqual(last(town + [judge([1], [number])]), [-2])
            self.assertEqual(last(town + [judge([1, 1, 1, number], [])]), [-2])
            self.assertEqual(last(town + [judge([], [100, 100, number, 5])]), [-2])

    def test_the_edges_of_the_range(self):
        for number in (0, 1000):
            self.assertEqual(last([point(0, 1), judge([number], [100])]), [0])
            self.assertEqual(last([point(0, 1), judge([1], [number])]), [0])

    def test_nothing_changes(self):
        calls = [point(0, 1), judge([-1], [100]), judge([1], [500]), judge([1], [1]), code(1), plan()]
        self.assertEqual(ask(calls)[1:], [[-2], [1, 2, 1, 0], [0], [0, 2, 0, 1], told_plan([(1, 100)], 0)])


if __name__ == "__main__":
    unittest.main()
