"""plan and adopt: which parting is the plan, which new codes it gives, and what adopting it changes."""

import unittest

from helper import adopt, ask, begin, cap, code, day, judge, last, load, numbers_in_order, plan, point
from helper import points_behind_one_another, remove, told_plan, town_with_stretches

from postdistricts.actions import adopt_plan
from postdistricts.questions import tell_plan
from postdistricts.records import Point, Town
from postdistricts.refusals import NoPlan, TooMany


def reloaded(lengths, loads, limit):
    """A town with codes 100, 101, ... on these stretches, and then these loads and this cap."""
    numbers = numbers_in_order(lengths)
    changes = [load(number, weight) for number, weight in zip(numbers, loads)]
    return town_with_stretches(lengths) + changes + [cap(limit)]


class Plan(unittest.TestCase):
    def check(self, lengths, loads, limit, districts, kept):
        self.assertEqual(last(reloaded(lengths, loads, limit) + [plan()]), told_plan(districts, kept))

    def test_no_points_at_all(self):
        self.assertEqual(ask([plan(), adopt()]), [[0, 1, 0, 0], [0, 2, 0, 0]])

    def test_fewest_districts_each_as_great_as_can_be(self):
        town = [begin(30, 10)] + points_behind_one_another([4, 3, 3, 6, 4, 1])
        self.assertEqual(last(town + [plan()]), told_plan([(3, 100), (2, 101), (1, 102)], 0))

    def test_fewest_districts_before_points_kept(self):
        # Two districts of two would keep all four points; one district keeps two.
        self.check([2, 2], [1, 1, 1, 1], 4, [(4, 100)], 2)

    def test_most_points_kept_before_a_great_first_district(self):
        # 3 + 1 would be the greater first district, but 1 + 3 keeps all.
        self.check([1, 3], [1, 1, 1, 1], 3, [(1, 100), (3, 101)], 4)

    def test_the_first_district_as_great_as_can_be(self):
        # Each of 4 + 2, 3 + 3 and 2 + 4 keeps four points; 5 + 1 keeps three.
        self.check([2, 2, 2], [1] * 6, 5, [(4, 100), (2, 102)], 4)

    def test_the_second_district_as_great_as_can_be(self):
        # Behind the first point each of 4 + 2, 3 + 3 and 2 + 4 keeps four points.
        self.check([1, 2, 2, 2], [5] + [1] * 6, 5, [(1, 100), (4, 101), (2, 103)], 5)

    def test_of_several_codes_that_do_as_well_the_first_in_walking_order(self):
        self.check([2, 2], [1, 1, 1, 1], 4, [(4, 100)], 2)
        self.check([1, 2, 2], [1] * 5, 5, [(5, 101)], 2)

    def test_first_in_walking_order_is_not_the_least(self):
        # 100 is retired, and behind the grace it is given to the second point.
        town = [begin(0, 1)] + points_behind_one_another([1, 1]) + [adopt(), remove(1), point(1, 1), day(1), adopt()]
        self.assertEqual(last(town + [plan()]), told_plan([(1, 101), (1, 100)], 2))
        self.assertEqual(last(town + [cap(2), plan()]), told_plan([(2, 101)], 1))

    def test_an_own_code_before_a_new_one_where_both_do_as_well(self):
        # The code stays with two points whether the first or the second district has it.
        self.check([4], [1, 1, 1, 1], 2, [(2, 100), (2, 101)], 2)

    def test_a_new_code_that_does_better(self):
        # The first district holds one point of 100, the second three: it takes a new code.
        self.check([4], [3, 1, 1, 1], 3, [(1, 101), (3, 100)], 3)

    def test_a_code_of_its_own_points_though_fewer_have_it(self):
        # The first district leaves 101 to the second and keeps its one point of 100.
        self.check([1, 5], [1, 1, 1, 1, 1, 1], 3, [(3, 100), (3, 101)], 4)

    def test_a_code_through_three_districts(self):
        # One code over all: the middle district is greatest and has it.
        self.check([6], [6, 2, 2, 2, 6, 1], 7, [(1, 101), (3, 100), (2, 102)], 3)
        self.check([5], [7, 7, 2, 2, 2], 7, [(1, 101), (1, 102), (3, 100)], 3)

    def test_a_code_taken_by_the_first_is_not_had_by_the_third(self):
        self.check([6], [1, 1, 1, 3, 3, 3], 3, [(3, 100), (1, 101), (1, 102), (1, 103)], 3)

    def test_loads_of_0(self):
        self.check([3], [0, 0, 0], 1, [(3, 100)], 3)
        town = [begin(30, 1)] + points_behind_one_another([0, 1, 0, 0, 1, 0])
        self.assertEqual(last(town + [plan()]), told_plan([(4, 100), (2, 101)], 0))

    def test_a_load_may_be_as_great_as_the_cap_and_not_above(self):
        self.assertEqual(last([cap(9), point(0, 9), plan()]), told_plan([(1, 100)], 0))
        self.assertEqual(last([cap(9), point(0, 10), plan()]), [-7])
        self.assertEqual(last([cap(9), point(0, 1), point(1, 10), adopt()]), [-7])

    def test_loads_together_may_be_as_great_as_the_cap_and_not_above(self):
        self.assertEqual(last([cap(9), point(0, 4), point(1, 5), plan()]), told_plan([(2, 100)], 0))
        self.assertEqual(last([cap(8), point(0, 4), point(1, 5), plan()]), told_plan([(1, 100), (1, 101)], 0))

    def test_changes_nothing(self):
        town = [begin(30, 5), point(0, 5), point(1, 5)]
        calls = town + [plan(), plan(), code(1), code(2), judge([1, 1], [101, 100])]
        self.assertEqual(ask(calls)[3:], [told_plan([(1, 100), (1, 101)], 0)] * 2
                         + [[0, 2, 0, 5], [0, 2, 0, 5], [1, 2, 2, 0]])

    def test_forty_points(self):
        town = [begin(30, 1)] + points_behind_one_another([1] * 40)
        self.assertEqual(last(town + [plan()]), told_plan([(1, number) for number in range(100, 140)], 0))
        self.assertEqual(last(town + [adopt(), cap(40), plan()]), told_plan([(40, 100)], 1))


class NewCodes(unittest.TestCase):
    def test_the_least_in_the_order_of_districts(self):
        town = town_with_stretches([1, 1, 1]) + [remove(2), cap(1), point(2, 1), point(0, 1)]
        # Codes now 100 100 102 102, and 101 is retired: 103 and 104 are the least that may be given.
        self.assertEqual(last(town + [plan()]), told_plan([(1, 100), (1, 103), (1, 102), (1, 104)], 2))

    def test_the_day_on_which_the_grace_ends_and_the_day_behind(self):
        town = [begin(5, 1)] + points_behind_one_another([1, 1]) + [adopt(), day(3), remove(1), point(1, 1)]
        self.assertEqual(last(town + [day(5), plan()]), told_plan([(1, 101), (1, 102)], 1))
        self.assertEqual(last(town + [day(6), plan()]), told_plan([(1, 101), (1, 100)], 1))

    def test_grace_0(self):
        town = [begin(0, 1)] + points_behind_one_another([1, 1]) + [adopt(), remove(1), point(1, 1)]
        self.assertEqual(last(town + [plan()]), told_plan([(1, 101), (1, 102)], 1))
        self.assertEqual(last(town + [day(1), plan()]), told_plan([(1, 101), (1, 100)], 1))

    def test_retired_twice_the_later_day_counts(self):
        town = [begin(5, 1), point(0, 1), adopt(), remove(1), day(6), point(0, 1), adopt(), day(2), remove(2),
                point(0, 1)]
        self.assertEqual(ask(town)[6], [1, 2, 1, 0])
        self.assertEqual(ask(town)[8], [100])
        self.assertEqual(last(town + [day(5), plan()]), told_plan([(1, 101)], 0))
        self.assertEqual(last(town + [day(6), plan()]), told_plan([(1, 100)], 0))

    def test_a_code_that_the_plan_takes_from_its_last_point_is_not_given_by_it(self):
        # 101 loses its only point to 100, and is nobody's new code yet.
        town = reloaded([1, 1, 4], [1, 1, 2, 2, 2, 2], 2)
        self.assertEqual(last(town + [plan()]), told_plan([(2, 100), (1, 102), (1, 103), (1, 104), (1, 105)], 2))

    def test_a_code_that_a_point_reads_as_one_that_it_had(self):
        # Such a code is always retired as late or later, so the town is set up by hand.
        town = Town(5, 10)
        town.points.append(Point(1, 1, 0, 0))
        town.points[0].had.append((100, 0, 4))
        town.day = 9
        self.assertEqual(tell_plan(town), told_plan([(1, 101)], 0))
        town.day = 10
        self.assertEqual(tell_plan(town), told_plan([(1, 100)], 0))


class NoCodeLeft(unittest.TestCase):
    # No line with 40 plans and adoptions uses up all codes, so the towns are set up by hand.
    def town(self, codes_left, days_gone=0):
        town = Town(5, 10)
        for place in range(2):
            town.points.append(Point(place + 1, 10, 0, 0))
        town.numbers_given = 2
        town.retired = [(number, 0) for number in range(100, 1000) if number not in codes_left]
        town.day = days_gone
        return town

    def test_just_enough(self):
        self.assertEqual(tell_plan(self.town((500, 999))), told_plan([(1, 500), (1, 999)], 0))

    def test_one_too_few_changes_nothing(self):
        for call in (tell_plan, adopt_plan):
            town = self.town((500,))
            with self.assertRaises(TooMany):
                call(town)
            self.assertEqual([(one.code, one.since, one.had) for one in town.points], [(0, 0, [])] * 2)
            self.assertEqual(len(town.retired), 899)

    def test_no_plan_is_refused_first(self):
        town = self.town(())
        town.cap = 9
        for call in (tell_plan, adopt_plan):
            with self.assertRaises(NoPlan):
                call(town)

    def test_behind_the_grace_all_are_there_again(self):
        with self.assertRaises(TooMany):
            tell_plan(self.town((), days_gone=5))
        self.assertEqual(tell_plan(self.town((), days_gone=6)), told_plan([(1, 100), (1, 101)], 0))

    def test_over_a_line_longer_than_lines_are(self):
        forty = [begin(1000, 1)] + points_behind_one_another([1] * 40)
        round_trip = [cap(1), adopt(), cap(40), adopt()]
        found = ask(forty + round_trip * 25 + [plan()])
        firsts = found[42::4]
        # 40 codes at first and 39 in each of 22 rounds behind it: 2 of the 900 are left.
        self.assertEqual(firsts[:23], [[40, 2, 40, 0]] + [[39, 2, 40, 0]] * 22)
        self.assertEqual(firsts[23:], [[-8], [-8]])
        self.assertEqual(found[-1], told_plan([(40, 100)], 40))


class Adopt(unittest.TestCase):
    def test_points_without_a_code_do_not_keep_it(self):
        calls = [begin(30, 5), point(0, 5), point(1, 2), point(2, 3), day(4), adopt(), code(1), code(2), code(3)]
        self.assertEqual(ask(calls)[5:], [[3, 2, 2, 0], [100, 2, 4, 5], [101, 2, 4, 2], [101, 2, 4, 3]])

    def test_the_day_since_when_stays_with_a_code_that_is_kept(self):
        calls = [begin(30, 5), point(0, 5), day(4), adopt(), day(2), point(1, 5), day(3), adopt(), code(1), code(2)]
        self.assertEqual(ask(calls)[7:], [[1, 2, 2, 0], [100, 2, 4, 5], [101, 2, 9, 5]])

    def test_adopting_again_changes_nothing(self):
        calls = [begin(30, 5), point(0, 5), point(1, 5), adopt(), day(3), adopt(), code(1), code(2)]
        self.assertEqual(ask(calls)[5:], [[0, 2, 2, 0], [100, 2, 0, 5], [101, 2, 0, 5]])

    def test_codes_are_retired(self):
        town = town_with_stretches([1, 1, 1], grace=2) + [day(1), cap(3), adopt()]
        self.assertEqual(ask(town + [code(2)])[-2:], [[2, 2, 1, 2], [100, 2, 1, 1]])
        self.assertEqual(last(town + [day(2), judge([1, 1, 1], [102, 100, 101])]), [0])
        self.assertEqual(last(town + [day(3), judge([1, 1, 1], [102, 100, 101])]), [1, 2, 3, 1])

    def test_a_code_that_some_point_still_has_is_not_retired(self):
        town = reloaded([4], [1, 1, 1, 1], 2)
        self.assertEqual(ask(town + [adopt(), judge([2, 2], [100, 101])])[-2:], [[2, 2, 2, 0], [1, 2, 2, 4]])
        # Some points lost 100 on day 0, the last ones on day 10: the grace of 30 days begins there.
        gone = town + [adopt(), day(10), remove(1), remove(2)]
        self.assertEqual(last(gone + [day(30), judge([2], [100])]), [0])
        self.assertEqual(last(gone + [day(31), judge([2], [100])]), [1, 2, 1, 0])

    def test_refusal_changes_nothing(self):
        town = town_with_stretches([1, 1]) + [load(2, 2)]
        self.assertEqual(ask(town + [adopt(), code(1), code(2), judge([1, 1], [100, 101]), load(2, 1), plan()])[-6:],
                         [[-7], [100, 2, 0, 1], [101, 2, 0, 2], [0], [2], told_plan([(1, 100), (1, 101)], 2)])

    def test_does_what_plan_told(self):
        town = reloaded([3, 1, 2], [1, 2, 2, 1, 2, 2], 4)
        told = last(town + [plan()])
        numbers = numbers_in_order([3, 1, 2])
        by_point = [one for size, one in zip(told[4::2], told[5::2]) for _ in range(size)]
        found = ask(town + [adopt()] + [code(number) for number in numbers])
        self.assertEqual([one[0] for one in found[-6:]], by_point)
        self.assertEqual(found[-7][0], 6 - told[2])


class RetiredInOrder(unittest.TestCase):
    def test_several_in_the_order_of_their_points(self):
        # Set up by hand, so that the codes out of order and what each point had are seen at once.
        town = Town(30, 3)
        for number, one in enumerate([102, 100, 101], start=1):
            town.points.append(Point(number, 1, one, 0))
        town.retired.append((104, 0))
        town.day = 6
        self.assertEqual(adopt_plan(town), [2, 2, 1, 2])
        self.assertEqual(town.retired, [(104, 0), (100, 6), (101, 6)])
        self.assertEqual([one.had for one in town.points], [[], [(100, 0, 6)], [(101, 0, 6)]])


if __name__ == "__main__":
    unittest.main()
