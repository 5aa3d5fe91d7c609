"""Which codes there are, which may be given, and how they are given and retired."""

NO_CODE = 0
LEAST_CODE = 100
GREATEST_CODE = 999


def codes_of(points):
    found = {}
    for point in points:
        if point.code != NO_CODE:
            found[point.code] = True
    return list(found)


def is_within_grace(town, day):
    return town.day - day <= town.grace


def codes_still_read(town, point):
    return [code for code, since, until in point.had if is_within_grace(town, until)]


def withheld_codes(town):
    withheld = {}
    for code in codes_of(town.points):
        withheld[code] = True
    for point in town.points:
        for code in codes_still_read(town, point):
            withheld[code] = True
    for code, day in town.retired:
        if is_within_grace(town, day):
            withheld[code] = True
    return withheld


def may_be_given(code, withheld):
    return LEAST_CODE <= code <= GREATEST_CODE and code not in withheld


def least_free_codes(town, wanted):
    withheld = withheld_codes(town)
    free = [code for code in range(LEAST_CODE, GREATEST_CODE + 1) if may_be_given(code, withheld)]
    return free[:wanted]


def give_code(town, point, code):
    if point.code == code:
        return
    if point.code != NO_CODE:
        point.had.append((point.code, point.since, town.day))
    point.code = code
    point.since = town.day


def retire_codes(town, codes_before):
    codes_now = codes_of(town.points)
    lost = [code for code in codes_before if code not in codes_now]
    for code in lost:
        town.retired.append((code, town.day))
    return len(lost)
