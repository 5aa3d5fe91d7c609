"""district, history, retired, row, free and counts: answers with their rows, empty towns, refusals and edges."""

import unittest

from helper import GREATEST_WHOLE, LEAST_WHOLE, adopt, ask, begin, cap, code, counts, day, district, free, history
from helper import judge, last, load, plan, point, points_behind_one_another, remove, retired, row, told_row
from helper import town_with_stretches

from postdistricts.questions import tell_free
from postdistricts.records import Point, Town

# The second point has 101 until day 0, 100 until day 3, 101 again until day 7, then 100; the grace is 2 days.
HAD_TWICE = town_with_stretches([1, 1], grace=2) + [
    cap(2), adopt(), day(3), cap(1), adopt(), day(4), cap(2), adopt()]


class District(unittest.TestCase):
    def test_points_in_walking_order_and_their_loads(self):
        # In walking order the points are 1, 4, 3 with 100 and 2, 6, 5 with 101.
        town = [begin(30, 1), point(0, 1), point(1, 1), adopt(), point(1, 10), point(1, 20), point(4, 30),
                point(4, 40), load(2, 5)]
        self.assertEqual(ask(town + [district(100), district(101), district(102)])[-3:],
                         [[3, 3, 1, 4, 3, 1, 31], [3, 3, 2, 6, 5, 1, 75], [0, 0, 1, 0]])

    def test_loads_of_0(self):
        self.assertEqual(last([point(0, 0), adopt(), district(100)]), [1, 1, 1, 1, 0])

    def test_great_loads(self):
        town = [begin(30, 1)] + points_behind_one_another([0] * 40) + [adopt()]
        town += [load(number, 1000000) for number in range(1, 41)]
        self.assertEqual(last(town + [district(100)]), [40] + told_row(range(1, 41)) + [1, 40000000])

    def test_no_points(self):
        self.assertEqual(ask([district(100), district(999)]), [[0, 0, 1, 0]] * 2)

    def test_points_without_a_code(self):
        self.assertEqual(ask([point(0, 7), district(100), district(0)])[1:], [[0, 0, 1, 0], [-1]])

    def test_a_code_that_points_had_but_have_no_more(self):
        town = town_with_stretches([1, 1]) + [cap(2), adopt()]
        self.assertEqual(ask(town + [district(100), district(101)])[-2:], [[2, 2, 1, 2, 1, 2], [0, 0, 1, 0]])

    def test_behind_a_removal(self):
        town = town_with_stretches([3]) + [remove(2)]
        self.assertEqual(last(town + [district(100)]), [2, 2, 1, 3, 1, 2])

    def test_edges_of_the_range(self):
        for number in (99, 1000, 0, -1, -100, LEAST_WHOLE, GREATEST_WHOLE):
            self.assertEqual(last([point(0, 1), adopt(), district(number)]), [-1])


class History(unittest.TestCase):
    def test_a_point_without_one(self):
        self.assertEqual(ask([point(0, 1), history(1), adopt(), history(1), adopt(), history(1)])[1::2], [[0]] * 3)

    def test_having_had_no_code_is_not_told(self):
        self.assertEqual(last([day(2), point(0, 1), day(3), adopt(), history(1)]), [0])

    def test_several_codes_in_order_with_their_days(self):
        # The second point has 101 from day 1 to 6, 100 to day 8, and then 102.
        town = [begin(30, 1), day(1), point(0, 1), point(1, 1), adopt(), day(5), cap(2), adopt(), history(2), day(2),
                cap(1), adopt(), history(2), history(1), code(2)]
        found = ask(town)
        self.assertEqual(found[8], [1, 3, 101, 1, 6])
        self.assertEqual(found[-3:], [[2, 3, 101, 1, 6, 3, 100, 6, 8], [0], [102, 2, 8, 1]])

    def test_a_code_that_it_had_lost_and_got_again(self):
        self.assertEqual(ask(HAD_TWICE + [history(1), history(2)])[-2:],
                         [[0], [3, 3, 101, 0, 0, 3, 100, 0, 3, 3, 101, 3, 7]])

    def test_it_is_told_for_ever(self):
        self.assertEqual(ask(HAD_TWICE + [day(1000), history(2)])[-1], last(HAD_TWICE + [history(2)]))

    def test_a_new_point_has_none_and_its_code_is_since_then(self):
        town = HAD_TWICE + [day(1), point(2, 1), history(3), day(2), cap(1), adopt(), history(3)]
        self.assertEqual([ask(town)[-5], ask(town)[-1]], [[0], [1, 3, 100, 8, 10]])

    def test_a_new_point_that_gets_another_code_on_the_same_day(self):
        town = town_with_stretches([1], grace=5) + [day(4), point(1, 1), adopt(), history(1), history(2)]
        self.assertEqual(ask(town)[-2:], [[0], [1, 3, 100, 4, 4]])

    def test_no_points(self):
        self.assertEqual(last([history(1)]), [-4])
        self.assertEqual(last(HAD_TWICE + [begin(2, 2), history(2)]), [-4])

    def test_refusals(self):
        for number, expected in [(0, -1), (-1, -1), (1000001, -1), (3, -4), (1000000, -4), (LEAST_WHOLE, -1),
                                 (GREATEST_WHOLE, -1)]:
            self.assertEqual(last(HAD_TWICE + [history(number)]), [expected])
        self.assertEqual(last(HAD_TWICE + [remove(2), history(2)]), [-4])


class Retired(unittest.TestCase):
    def test_none(self):
        self.assertEqual(ask([retired(), point(0, 1), retired(), adopt(), retired()])[::2], [[0, 0]] * 3)

    def test_by_a_removal_and_by_an_adoption(self):
        town = town_with_stretches([1, 1, 1]) + [day(3), remove(3), day(2), cap(2), adopt()]
        self.assertEqual(last(town + [retired()]), [2, 4, 102, 3, 101, 5])

    def test_more_than_once(self):
        self.assertEqual(last(HAD_TWICE + [retired()]), [2, 4, 101, 0, 101, 7])

    def test_the_order_within_one_call_is_that_of_the_points(self):
        # 100 is retired and given again behind the grace, so the points have 101, 102, 100.
        town = [begin(0, 1)] + points_behind_one_another([1, 1, 1])
        town += [adopt(), remove(1), point(2, 1), day(1), adopt()]
        self.assertEqual(last(town + [row()]), [3, 9, 2, 1, 101, 3, 1, 102, 4, 1, 100])
        self.assertEqual(last(town + [day(4), cap(3), adopt(), retired()]), [3, 6, 100, 0, 102, 5, 100, 5])

    def test_a_code_that_some_point_still_has_is_not_there(self):
        town = town_with_stretches([2, 1])
        self.assertEqual(ask(town + [remove(1), retired(), remove(3), retired()])[-3::2], [[0, 0], [1, 2, 100, 0]])
        self.assertEqual(last(town_with_stretches([2]) + [adopt(), retired()]), [0, 0])

    def test_no_code_is_not_retired(self):
        self.assertEqual(last([point(0, 1), remove(1), retired()]), [0, 0])

    def test_it_stays_when_the_code_is_given_again_and_behind_the_grace(self):
        town = [begin(1, 1), point(0, 1), adopt(), remove(1), day(2), point(0, 1), adopt()]
        self.assertEqual(ask(town + [code(2), retired(), day(1000), retired()])[-4:],
                         [[100, 2, 2, 1], [1, 2, 100, 0], [1002], [1, 2, 100, 0]])

    def test_a_refused_removal_or_adoption_retires_none(self):
        town = town_with_stretches([1, 1]) + [load(1, 9), adopt(), remove(3), remove(0), retired()]
        self.assertEqual(last(town), [0, 0])

    def test_all_is_new_behind_begin(self):
        self.assertEqual(last(HAD_TWICE + [begin(2, 2), retired()]), [0, 0])


class Row(unittest.TestCase):
    def test_none(self):
        self.assertEqual(ask([row(), begin(1, 1), row()])[::2], [[0, 0]] * 2)

    def test_points_without_a_code_in_walking_order(self):
        self.assertEqual(last([point(0, 5), point(0, 6), point(1, 0), row()]), [3, 9, 2, 6, 0, 3, 0, 0, 1, 5, 0])

    def test_several_districts(self):
        town = [begin(30, 9), point(0, 5), point(1, 4), point(2, 1), adopt(), load(2, 1000000)]
        self.assertEqual(last(town + [row()]), [3, 9, 1, 5, 100, 2, 1000000, 100, 3, 1, 101])

    def test_behind_a_removal_and_behind_begin(self):
        town = town_with_stretches([1, 2]) + [remove(2), point(0, 7), row()]
        self.assertEqual(last(town), [3, 9, 4, 7, 100, 1, 1, 100, 3, 1, 101])
        self.assertEqual(last(town + [begin(1, 1), row()]), [0, 0])

    def test_forty_points(self):
        numbers = [number for one in range(1, 41) for number in (one, 3, 0)]
        self.assertEqual(last(points_behind_one_another([3] * 40) + [row()]), [40, 120] + numbers)


class Free(unittest.TestCase):
    def test_all_are_free_in_an_empty_town(self):
        self.assertEqual(ask([free(1), free(2), free(50)]),
                         [[1, 1, 100], [2, 2, 100, 101], [50] + told_row(range(100, 150))])

    def test_edges_of_the_range(self):
        for number in (0, 51, -1, 1000, LEAST_WHOLE, GREATEST_WHOLE):
            self.assertEqual(last([free(number)]), [-1])

    def test_points_without_a_code_have_none(self):
        self.assertEqual(last([point(0, 1), free(1)]), [1, 1, 100])

    def test_codes_that_points_have(self):
        town = town_with_stretches([1, 2, 1])
        self.assertEqual(last(town + [free(1)]), [1, 1, 103])
        self.assertEqual(last(town + [day(1000), free(3)]), [3, 3, 103, 104, 105])

    def test_retired_within_the_grace_on_its_last_day_and_on_the_day_behind(self):
        town = town_with_stretches([1, 1, 1], grace=5) + [day(4), remove(2)]
        for days, expected in [(0, [103, 104]), (5, [103, 104]), (6, [101, 103])]:
            self.assertEqual(last(town + [day(days), free(2)]), [2] + told_row(expected))

    def test_a_code_that_a_point_reads_still(self):
        # 101 is read by the second point, which had it until day 4.
        town = town_with_stretches([1, 1], grace=5) + [day(4), cap(2), adopt()]
        for days, expected in [(0, 102), (5, 102), (6, 101)]:
            self.assertEqual(last(town + [day(days), free(1)]), [1, 1, expected])

    def test_a_code_that_a_point_reads_still_though_it_is_not_retired(self):
        # In a line such a code is always retired as late or later, so the town is set up by hand.
        town = Town(5, 10)
        town.points.append(Point(1, 1, 103, 0))
        town.points[0].had.extend([(100, 0, 2), (101, 2, 4), (100, 4, 6)])
        for today, expected in [(9, [102, 104]), (10, [101, 102]), (11, [101, 102]), (12, [100, 101])]:
            town.day = today
            self.assertEqual(tell_free(town, 2), [2] + told_row(expected))

    def test_retired_twice_each_day_counts(self):
        # 101 is retired on day 0 and on day 7.
        self.assertEqual(last(HAD_TWICE + [day(2), free(2)]), [2, 2, 102, 103])
        self.assertEqual(last(HAD_TWICE + [day(3), free(2)]), [2, 2, 101, 102])

    def test_a_code_given_again_is_not_free_though_its_grace_is_over(self):
        town = [begin(0, 1), point(0, 1), adopt(), remove(1), day(1), free(1), point(0, 1), adopt(), day(9), free(1)]
        self.assertEqual([ask(town)[5], ask(town)[-1]], [[1, 1, 100], [1, 1, 101]])

    def test_grace_0(self):
        town = [begin(0, 1), point(0, 1), adopt(), remove(1)]
        self.assertEqual(ask(town + [free(1), day(1), free(1)])[-3::2], [[1, 1, 101], [1, 1, 100]])

    def test_free_ones_are_the_new_codes_of_a_plan(self):
        town = town_with_stretches([1, 1, 4]) + [remove(1)]
        self.assertEqual(last(town + [free(3)]), [3, 3, 103, 104, 105])
        self.assertEqual(last(town + [plan()]), [5, 1, 2, 10, 1, 101, 1, 102, 1, 103, 1, 104, 1, 105])
        self.assertEqual(ask(town + [judge([1] * 5, [101, 102, 999, 500, number]) for number in (100, 103)])[-2:],
                         [[0], [1, 2, 5, 2]])

    def test_fewer_than_asked_for(self):
        # 40 codes at first, and 39 in each of 18 rounds of joining and parting and of 3 rounds of removals.
        calls = [begin(1000, 1)] + [point(0, 1)] * 40 + [adopt()] + [cap(40), adopt(), cap(1), adopt()] * 18
        for start in (2, 41, 80):
            calls += [remove(number) for number in range(start, start + 39)] + [point(1, 1)] * 39 + [adopt()]
        calls += [free(50), free(42), free(41), free(40), day(1000), free(50), day(1), free(3)]
        self.assertLessEqual(len(calls), 400)
        self.assertEqual(len([call for call in calls if call[0] in (6, 7)]), 40)
        left = [41] + told_row(range(959, 1000))
        found = ask(calls)[-8:]
        self.assertEqual(found[:3], [left] * 3)
        self.assertEqual(found[3], [40] + told_row(range(959, 999)))
        self.assertEqual([found[5], found[7][0]], [left, 3])

    def test_none_left(self):
        # No line uses up all codes, so the town is set up by hand.
        town = Town(5, 10)
        town.retired = [(number, 0) for number in range(100, 1000)]
        self.assertEqual(tell_free(town, 50), [0, 0])
        town.retired.remove((999, 0))
        self.assertEqual(tell_free(town, 50), [1, 1, 999])


class Counts(unittest.TestCase):
    def test_in_an_empty_town(self):
        self.assertEqual(last([counts()]), [0, 6, 30, 100, 0, 0, 0, 1])

    def test_behind_begin(self):
        self.assertEqual(last([begin(0, 1000000), counts()]), [0, 6, 0, 1000000, 0, 0, 0, 1])
        self.assertEqual(last(HAD_TWICE + [begin(7, 9), counts()]), [0, 6, 7, 9, 0, 0, 0, 1])

    def test_points_without_a_code(self):
        self.assertEqual(last([day(3), point(0, 1), point(0, 1), counts()]), [3, 6, 30, 100, 2, 0, 0, 3])

    def test_several_districts(self):
        town = town_with_stretches([2, 1, 3], grace=4) + [day(1000), day(5), cap(8)]
        self.assertEqual(last(town + [counts()]), [1005, 6, 4, 8, 6, 3, 0, 7])

    def test_behind_a_removal(self):
        town = town_with_stretches([2, 1]) + [remove(3)]
        self.assertEqual(last(town + [counts()]), [0, 6, 30, 1, 2, 2, 0, 4])
        self.assertEqual(last(town + [remove(1), counts()]), [0, 6, 30, 1, 1, 1, 1, 4])
        self.assertEqual(last(town + [remove(1), remove(2), counts()]), [0, 6, 30, 1, 0, 0, 2, 4])
        self.assertEqual(ask(town + [remove(2), point(0, 1), counts()])[-2:], [[4], [0, 6, 30, 1, 2, 1, 1, 5]])

    def test_each_time_that_a_code_is_retired_counts(self):
        self.assertEqual(last(HAD_TWICE + [counts()]), [7, 6, 2, 2, 2, 1, 2, 3])

    def test_refusals_change_nothing(self):
        before = last(HAD_TWICE + [counts()])
        refused = [begin(1001, 1), begin(1, 0), point(3, 0), point(0, -1), load(1, -1), load(9, 1), remove(9),
                   cap(0), day(1001), judge([-1], []), code(0), district(99), history(9), free(0)]
        found = ask(HAD_TWICE + refused + [counts(), row(), retired()])
        self.assertTrue(all(len(told) == 1 and told[0] < 0 for told in found[len(HAD_TWICE):-3]))
        self.assertEqual(found[-3:], [before] + ask(HAD_TWICE + [row(), retired()])[-2:])


if __name__ == "__main__":
    unittest.main()
