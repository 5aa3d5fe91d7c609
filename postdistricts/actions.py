"""The calls that change a town: each takes its arguments and gives back its answer, or raises a refusal.

All that may be refused is asked before anything is changed.
"""

from postdistricts.codebook import NO_CODE, codes_of, give_code, retire_codes
from postdistricts.common import GREATEST_NUMBER, as_row, check_range, find_point
from postdistricts.partings import codes_by_point, count_kept, make_plan
from postdistricts.records import Point
from postdistricts.refusals import TooMany

MOST_POINTS = 40
GREATEST_LOAD = 1000000
GREATEST_CAP = 1000000
GREATEST_GRACE = 1000
MOST_DAYS = 1000
LAST_DAY = 100000


def begin_anew(town, grace, cap):
    check_range(grace, 0, GREATEST_GRACE)
    check_range(cap, 1, GREATEST_CAP)
    town.renew(grace, cap)
    return [0]


def code_at_place(points, place):
    if not points:
        return NO_CODE
    if place == 0:
        return points[0].code
    return points[place - 1].code


def put_point(town, place, load):
    check_range(place, 0, len(town.points))
    check_range(load, 0, GREATEST_LOAD)
    if len(town.points) == MOST_POINTS or town.numbers_given == GREATEST_NUMBER:
        raise TooMany()
    code = code_at_place(town.points, place)
    town.numbers_given += 1
    town.points.insert(place, Point(town.numbers_given, load, code, town.day))
    return [town.numbers_given]


def change_load(town, number, load):
    check_range(load, 0, GREATEST_LOAD)
    point = find_point(town, number)
    load_before = point.load
    point.load = load
    return [load_before]


def remove_point(town, number):
    gone = find_point(town, number)
    codes_before = codes_of(town.points)
    town.points = [point for point in town.points if point.number != number]
    retire_codes(town, codes_before)
    return [gone.code]


def change_cap(town, cap):
    check_range(cap, 1, GREATEST_CAP)
    cap_before = town.cap
    town.cap = cap
    return [cap_before]


def pass_days(town, days):
    check_range(days, 0, MOST_DAYS)
    if town.day + days > LAST_DAY:
        raise TooMany()
    town.day += days
    return [town.day]


def adopt_plan(town):
    districts = make_plan(town)
    moved = len(town.points) - count_kept(town.points, districts)
    codes_before = codes_of(town.points)
    for point, code in zip(town.points, codes_by_point(districts)):
        give_code(town, point, code)
    return [moved] + as_row([len(districts), retire_codes(town, codes_before)])
