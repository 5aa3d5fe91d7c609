"""What the tests share: calls written as lists, answers split again, and a slow town to compare with."""

import itertools

from postdistricts.town import answers

LEAST_WHOLE = -2 ** 63
GREATEST_WHOLE = 2 ** 63 - 1


def begin(grace, cap):
    return [0, grace, cap]


def point(place, load):
    return [1, place, load]


def load(number, new_load):
    return [2, number, new_load]


def remove(number):
    return [3, number]


def cap(new_cap):
    return [4, new_cap]


def day(days):
    return [5, days]


def plan():
    return [6]


def adopt():
    return [7]


def judge(sizes, codes):
    return [8, len(sizes)] + list(sizes) + [len(codes)] + list(codes)


def code(number):
    return [9, number]


def district(number):
    return [10, number]


def read(number, signs):
    return [11, number, len(signs)] + list(signs)


def text(number):
    return [12, number]


def check(signs):
    return [13, len(signs)] + list(signs)


def history(number):
    return [14, number]


def retired():
    return [15]


def row():
    return [16]


def free(count):
    return [17, count]


def counts():
    return [18]


def signs_of(written):
    """The bytes of a text."""
    return list(written.encode("latin-1"))


def joined(calls):
    return [number for call in calls for number in call]


def split(told):
    found = []
    at = 0
    while at < len(told):
        found.append(told[at + 1:at + 1 + told[at]])
        at += 1 + told[at]
    return found


def ask(calls):
    """The answer of each call of a line, one list each."""
    found = split(answers(joined(calls)))
    assert len(found) == len(calls)
    return found


def last(calls):
    return ask(calls)[-1]


def told_row(numbers):
    return [len(numbers)] + list(numbers)


def told_plan(districts, kept):
    numbers = [number for district in districts for number in district]
    return [len(districts), 1, kept, len(numbers)] + numbers


def points_behind_one_another(loads):
    return [point(place, one) for place, one in enumerate(loads)]


def town_with_stretches(lengths, grace=30):
    """Calls that build a town with codes 100, 101, ... on stretches of these lengths, all loads 1.

    The points get numbers that do not follow walking order; numbers_in_order tells them.
    """
    calls = [begin(grace, 1)]
    calls += points_behind_one_another([1] * len(lengths))
    calls.append(adopt())
    place = 0
    for length in lengths:
        for more in range(1, length):
            calls.append(point(place + more, 1))
        place += length
    return calls


def numbers_in_order(lengths):
    numbers = []
    following = len(lengths)
    for first, length in enumerate(lengths, start=1):
        numbers.append([first] + [following + more for more in range(1, length)])
        following += length - 1
    return [number for stretch in numbers for number in stretch]


def all_sizes(count):
    if count == 0:
        return [[]]
    return [[first] + rest for first in range(1, count + 1) for rest in all_sizes(count - first)]


def all_labels(districts, codes):
    """Each way to give districts unlike codes, None standing for a new one."""
    if districts == 0:
        return [[]]
    found = []
    for label in list(codes) + [None]:
        others = [one for one in codes if one != label]
        found += [[label] + rest for rest in all_labels(districts - 1, others)]
    return found


def kept_by(codes, sizes, labels):
    by_point = [label for size, label in zip(sizes, labels) for _ in range(size)]
    return sum(1 for had, label in zip(codes, by_point) if had != 0 and had == label)


def is_borne(loads, sizes, limit):
    ends = list(itertools.accumulate(sizes))
    return all(sum(loads[end - size:end]) <= limit for size, end in zip(sizes, ends))


def slow_districts(codes, loads, limit):
    """The plan by a search through all partings: pairs of size and code, None for a new one."""
    rows = [sizes for sizes in all_sizes(len(codes)) if is_borne(loads, sizes, limit)]
    fewest = min(len(sizes) for sizes in rows)
    had = [one for one in dict.fromkeys(codes) if one != 0]
    labels = all_labels(fewest, had)
    partings = [(sizes, row) for sizes in rows if len(sizes) == fewest for row in labels]
    kept = [kept_by(codes, sizes, row) for sizes, row in partings]
    left = [parting for parting, keeps in zip(partings, kept) if keeps == max(kept)]
    start = 0
    for turn in range(fewest):
        size = max(sizes[turn] for sizes, row in left)
        left = [(sizes, row) for sizes, row in left if sizes[turn] == size]
        own = [one for one in dict.fromkeys(codes[start:start + size]) if one != 0]
        choice = next(one for one in own + [None] if any(row[turn] == one for sizes, row in left))
        left = [(sizes, row) for sizes, row in left if row[turn] == choice]
        start += size
    assert len(left) == 1
    return list(zip(*left[0])), max(kept)


CALL_NAMES = """begin point load remove cap day plan adopt judge code
    district read text check history retired row free counts""".split()


def written_code(number):
    first, second, third = [int(digit) for digit in str(number)]
    return str(number) + "ABCDEFGHIJK"[(first + second + second + third + third + third) % 11]


CODES_BY_TEXT = {written_code(number): number for number in range(100, 1000)}


class SlowTown:
    """All calls once more, by the words of the document, without a thought for speed."""

    def __init__(self):
        self.start(30, 100)

    def start(self, grace, limit):
        self.today, self.grace, self.limit = 0, grace, limit
        self.standing, self.gone, self.following = [], [], 1

    def answer(self, call):
        if call[0] == 8:
            sizes = call[2:2 + call[1]]
            return self.judge(sizes, call[3 + call[1]:])
        if call[0] == 11:
            return self.read(call[1], call[3:])
        if call[0] == 13:
            return self.check(call[2:])
        return getattr(self, CALL_NAMES[call[0]])(*call[1:])

    def find(self, number):
        if not 1 <= number <= 1000000:
            return -1
        return next((one for one in self.standing if one["number"] == number), -4)

    def codes(self):
        return [one["code"] for one in self.standing]

    def retire(self, before):
        lost = [one for one in dict.fromkeys(before) if one != 0 and one not in self.codes()]
        self.gone += [(one, self.today) for one in lost]
        return len(lost)

    def may_give(self, one):
        if not 100 <= one <= 999 or one in self.codes():
            return False
        had = [(old, until) for each in self.standing for old, since, until in each["had"]]
        return all(self.today > until + self.grace for old, until in had + self.gone if old == one)

    def begin(self, grace, limit):
        if not 0 <= grace <= 1000 or not 1 <= limit <= 1000000:
            return [-1]
        self.start(grace, limit)
        return [0]

    def point(self, place, weight):
        if not 0 <= place <= len(self.standing) or not 0 <= weight <= 1000000:
            return [-1]
        if len(self.standing) == 40:
            return [-8]
        beside = self.standing[max(place - 1, 0)]["code"] if self.standing else 0
        one = {"number": self.following, "load": weight, "code": beside, "since": self.today, "had": []}
        self.standing = self.standing[:place] + [one] + self.standing[place:]
        self.following += 1
        return [one["number"]]

    def load(self, number, weight):
        if not 0 <= weight <= 1000000:
            return [-1]
        one = self.find(number)
        if isinstance(one, int):
            return [one]
        before, one["load"] = one["load"], weight
        return [before]

    def remove(self, number):
        one = self.find(number)
        if isinstance(one, int):
            return [one]
        before = self.codes()
        self.standing.remove(one)
        self.retire(before)
        return [one["code"]]

    def cap(self, limit):
        if not 1 <= limit <= 1000000:
            return [-1]
        before, self.limit = self.limit, limit
        return [before]

    def day(self, days):
        if not 0 <= days <= 1000:
            return [-1]
        if self.today + days > 100000:
            return [-8]
        self.today += days
        return [self.today]

    def planned(self):
        loads = [one["load"] for one in self.standing]
        if any(one > self.limit for one in loads):
            return None
        districts, kept = slow_districts(self.codes(), loads, self.limit)
        free = iter([one for one in range(100, 1000) if self.may_give(one)])
        return [(size, next(free) if label is None else label) for size, label in districts], kept

    def plan(self):
        found = self.planned()
        return [-7] if found is None else told_plan(*found)

    def adopt(self):
        found = self.planned()
        if found is None:
            return [-7]
        districts, kept = found
        before = self.codes()
        by_point = [label for size, label in districts for _ in range(size)]
        for one, label in zip(self.standing, by_point):
            if one["code"] != label:
                if one["code"] != 0:
                    one["had"].append((one["code"], one["since"], self.today))
                one["code"], one["since"] = label, self.today
        return [len(before) - kept, 2, len(districts), self.retire(before)]

    def judge(self, sizes, codes):
        if any(not 0 <= one <= 1000 for one in sizes + codes):
            return [-2]
        loads = [one["load"] for one in self.standing]
        fits = len(sizes) == len(codes) and sum(sizes) == len(loads) and all(one > 0 for one in sizes)
        fits = fits and len(codes) == len(set(codes)) and is_borne(loads, sizes, self.limit)
        fits = fits and all(one != 0 and one in self.codes() or self.may_give(one) for one in codes)
        return [1, 2, len(sizes), kept_by(self.codes(), sizes, codes)] if fits else [0]

    def code(self, number):
        one = self.find(number)
        return [one] if isinstance(one, int) else [one["code"], 2, one["since"], one["load"]]

    def district(self, number):
        if not 100 <= number <= 999:
            return [-1]
        there = [one for one in self.standing if one["code"] == number]
        return [len(there)] + told_row([one["number"] for one in there]) + [1, sum(one["load"] for one in there)]

    def read(self, number, signs):
        one = self.find(number)
        if isinstance(one, int):
            return [one]
        told = self.check(signs)[0]
        if told == 0:
            return [-2]
        had = any(old == told and self.today <= until + self.grace for old, since, until in one["had"])
        return [1 if told == one["code"] else 2 if had else 0, 1, one["code"]]

    def text(self, number):
        return [0] + told_row(signs_of(written_code(number))) if 100 <= number <= 999 else [-1]

    def check(self, signs):
        return [CODES_BY_TEXT.get(bytes(signs).decode("latin-1"), 0)]

    def history(self, number):
        one = self.find(number)
        if isinstance(one, int):
            return [one]
        return [len(one["had"])] + joined(told_row(old) for old in one["had"])

    def retired(self):
        return [len(self.gone)] + told_row(joined(self.gone))

    def row(self):
        numbers = [(one["number"], one["load"], one["code"]) for one in self.standing]
        return [len(numbers)] + told_row(joined(numbers))

    def free(self, count):
        if not 1 <= count <= 50:
            return [-1]
        least = [one for one in range(100, 1000) if self.may_give(one)][:count]
        return [len(least)] + told_row(least)

    def counts(self):
        codes = set(self.codes()) - {0}
        return [self.today, 6, self.grace, self.limit, len(self.standing), len(codes), len(self.gone), self.following]
