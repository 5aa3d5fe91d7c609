"""The calls that change nothing: each takes its arguments and gives back its answer, or raises a refusal."""

from postdistricts.codebook import GREATEST_CODE, LEAST_CODE, NO_CODE, codes_of, codes_still_read, least_free_codes
from postdistricts.common import as_one_row, as_row, check_range, find_point
from postdistricts.lettering import code_read_from, text_of
from postdistricts.partings import count_kept, make_plan, might_be
from postdistricts.refusals import NotAsTold

GREATEST_JUDGED = 1000
MOST_FREE_TOLD = 50
NOT_READ = 0
READ_AS_OWN = 1
READ_AS_HAD_BEFORE = 2


def tell_plan(town):
    districts = make_plan(town)
    return [len(districts)] + as_row([count_kept(town.points, districts)]) + as_one_row(districts)


def judge_parting(town, sizes, codes):
    for number in sizes + codes:
        if number < 0 or number > GREATEST_JUDGED:
            raise NotAsTold()
    if not might_be(town, sizes, codes):
        return [0]
    districts = list(zip(sizes, codes))
    return [1] + as_row([len(districts), count_kept(town.points, districts)])


def tell_code(town, number):
    point = find_point(town, number)
    return [point.code] + as_row([point.since, point.load])


def tell_district(town, code):
    check_range(code, LEAST_CODE, GREATEST_CODE)
    having = [point for point in town.points if point.code == code]
    load = sum([point.load for point in having])
    return [len(having)] + as_row([point.number for point in having]) + as_row([load])


def how_read(town, point, code):
    if code == point.code:
        return READ_AS_OWN
    if code in codes_still_read(town, point):
        return READ_AS_HAD_BEFORE
    return NOT_READ


def tell_reading(town, number, text):
    point = find_point(town, number)
    code = code_read_from(text)
    if code == NO_CODE:
        raise NotAsTold()
    return [how_read(town, point, code)] + as_row([point.code])


def tell_text(code):
    check_range(code, LEAST_CODE, GREATEST_CODE)
    return [0] + as_row(text_of(code))


def check_text(text):
    return [code_read_from(text)]


def tell_history(town, number):
    point = find_point(town, number)
    told = [len(point.had)]
    for code, since, until in point.had:
        told.extend(as_row([code, since, until]))
    return told


def tell_retired(town):
    return [len(town.retired)] + as_one_row(town.retired)


def tell_row(town):
    return [len(town.points)] + as_one_row([(point.number, point.load, point.code) for point in town.points])


def tell_free(town, wanted):
    check_range(wanted, 1, MOST_FREE_TOLD)
    free = least_free_codes(town, wanted)
    return [len(free)] + as_row(free)


def tell_counts(town):
    districts = len(codes_of(town.points))
    return [town.day] + as_row([town.grace, town.cap, len(town.points), districts, len(town.retired),
                                town.numbers_given + 1])
