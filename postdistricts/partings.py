"""Partings of a town's points into districts, and the plan, the best of them.

A row of districts is a list of pairs: how many points, and the code.
"""

from postdistricts.codebook import NO_CODE, codes_of, least_free_codes, may_be_given, withheld_codes
from postdistricts.refusals import NoPlan, TooMany

NEW_CODE = 0


def codes_by_point(districts):
    codes = []
    for size, code in districts:
        codes.extend([code] * size)
    return codes


def count_kept(points, districts):
    codes = codes_by_point(districts)
    return len([code for point, code in zip(points, codes) if code == point.code])


def are_all_points_in(points, sizes):
    return 0 not in sizes and sum(sizes) == len(points)


def are_codes_fit(town, codes):
    if len(set(codes)) < len(codes):
        return False
    codes_had = codes_of(town.points)
    withheld = withheld_codes(town)
    for code in codes:
        if code not in codes_had and not may_be_given(code, withheld):
            return False
    return True


def are_loads_borne(points, sizes, cap):
    start = 0
    for size in sizes:
        if sum([point.load for point in points[start:start + size]]) > cap:
            return False
        start += size
    return True


def might_be(town, sizes, codes):
    if len(sizes) != len(codes) or not are_all_points_in(town.points, sizes):
        return False
    return are_codes_fit(town, codes) and are_loads_borne(town.points, sizes, town.cap)


# Points with the same code stand side by side: a new point has its neighbour's code, and a plan gives
# each code to one stretch. So of the codes that earlier districts took, a later district can meet only
# the one of its first point; whether that one is taken is all that must be known of what lies before.


def first_districts(points, cap, start, is_taken):
    # Each choice of the district that begins at start: its size, its code's turn, its code, points kept.
    choices = []
    kept = {}
    load = 0
    for place in range(start, len(points)):
        point = points[place]
        load += point.load
        if load > cap:
            break
        if point.code != NO_CODE and not (is_taken and point.code == points[start].code):
            kept[point.code] = kept.get(point.code, 0) + 1
        size = place - start + 1
        for turn, code in enumerate(kept):
            choices.append((size, turn, code, kept[code]))
        choices.append((size, len(kept), NEW_CODE, 0))
    return choices


def is_taken_behind(points, start, is_taken, end, code):
    if end == len(points) or points[end].code == NO_CODE:
        return False
    return points[end].code == code or (is_taken and points[end].code == points[start].code)


def best_choice(points, cap, start, is_taken, best):
    # Tuples are compared from the left, so each is in the order in which the plan weighs:
    # few districts, many points kept, a great first district, its code's turn.
    weighed = []
    for size, turn, code, kept in first_districts(points, cap, start, is_taken):
        end = start + size
        rest = best[(end, is_taken_behind(points, start, is_taken, end, code))]
        weighed.append((rest[0] + 1, rest[1] - kept, -size, turn, code))
    return min(weighed)


def best_choices(points, cap):
    best = {(len(points), False): (0, 0, 0, 0, NEW_CODE)}
    for start in range(len(points) - 1, -1, -1):
        best[(start, False)] = best_choice(points, cap, start, False, best)
        if start > 0 and points[start - 1].code == points[start].code:
            best[(start, True)] = best_choice(points, cap, start, True, best)
    return best


def best_districts(points, cap):
    best = best_choices(points, cap)
    districts = []
    start = 0
    is_taken = False
    while start < len(points):
        choice = best[(start, is_taken)]
        size = -choice[2]
        code = choice[4]
        districts.append((size, code))
        is_taken = is_taken_behind(points, start, is_taken, start + size, code)
        start += size
    return districts


def with_new_codes(town, districts):
    wanted = len([code for size, code in districts if code == NEW_CODE])
    free = least_free_codes(town, wanted)
    if len(free) < wanted:
        raise TooMany()
    named = []
    for size, code in districts:
        named.append((size, free.pop(0) if code == NEW_CODE else code))
    return named


def make_plan(town):
    for point in town.points:
        if point.load > town.cap:
            raise NoPlan()
    return with_new_codes(town, best_districts(town.points, town.cap))
