"""The program against a slow search through all partings, and whole lines against the slow town."""

import functools
import random
import unittest

from helper import SlowTown, adopt, all_sizes, ask, begin, cap, check, code, counts, day, district, free, history
from helper import joined, judge, last, load, numbers_in_order, plan, point, read, remove, retired, row, signs_of
from helper import slow_districts, text, told_plan, town_with_stretches, written_code

from postdistricts.town import answers


def codes_on(lengths):
    return [100 + turn for turn, length in enumerate(lengths) for _ in range(length)]


def line_for(lengths, loads, limit):
    changes = [load(number, weight) for number, weight in zip(numbers_in_order(lengths), loads)]
    return town_with_stretches(lengths) + changes + [cap(limit), plan()]


def with_least_codes(districts, first):
    free = iter(range(first, 1000))
    return [(size, next(free) if label is None else label) for size, label in districts]


def middling_search(codes, loads, limit):
    """As slow_districts, for some more points: it knows only that a code once taken is taken."""
    @functools.lru_cache(maxsize=None)
    def best(start, taken):
        if start == len(codes):
            return (0, 0, ())
        found = []
        for end in range(start + 1, len(codes) + 1):
            if sum(loads[start:end]) > limit:
                break
            own = [one for one in dict.fromkeys(codes[start:end]) if one not in taken]
            for turn, label in enumerate(own + [None]):
                rest = best(end, taken if label is None else taken | {label})
                kept = codes[start:end].count(label)
                found.append(((rest[0] + 1, rest[1] - kept, start - end, turn), ((end - start, label),) + rest[2]))
        weight, districts = min(found, key=lambda one: one[0])
        return (weight[0], weight[1], districts)
    found = best(0, frozenset())
    return list(found[2]), -found[1]


class SlowSearch(unittest.TestCase):
    def check(self, lengths, loads, limit, search):
        districts, kept = search(codes_on(lengths), loads, limit)
        expected = told_plan(with_least_codes(districts, 100 + len(lengths)), kept)
        self.assertEqual(last(line_for(lengths, loads, limit)), expected, (lengths, loads, limit))

    def test_all_stretches_of_up_to_five_points_with_like_loads(self):
        for count in range(1, 6):
            for lengths in all_sizes(count):
                for limit in range(1, count + 1):
                    self.check(lengths, [1] * count, limit, slow_districts)

    def test_small_towns_with_several_codes(self):
        chance = random.Random(1)
        for _ in range(700):
            count = chance.randint(2, 7)
            lengths = chance.choice(all_sizes(count))
            loads = [chance.choice((0, 1, 1, 2, 3, 4)) for _ in range(count)]
            limit = max(max(loads), (sum(loads) + 3) // chance.randint(1, 4), 1)
            self.check(lengths, loads, limit, slow_districts)

    def test_middling_towns(self):
        chance = random.Random(2)
        for _ in range(300):
            lengths = [chance.randint(1, 5) for _ in range(chance.randint(1, 5))]
            loads = [chance.choice((0, 1, 1, 2, 3, 5)) for _ in range(sum(lengths))]
            limit = max(max(loads), chance.randint(1, 12))
            self.check(lengths, loads, limit, middling_search)


def random_change(chance, number):
    return chance.choice([
        point(chance.randint(0, 5), chance.randint(0, 4)), point(chance.randint(0, 3), chance.randint(-1, 3)),
        point(0, chance.randint(0, 4)), load(number, chance.randint(0, 5)), remove(number),
        cap(chance.randint(3, 9)), cap(chance.randint(0, 5)), day(chance.randint(0, 2)), adopt(), adopt(), adopt(),
    ])


def random_parting(chance, count):
    sizes = chance.choice(all_sizes(min(count, 5))) if chance.random() < 0.8 else [chance.randint(-1, 4)]
    codes = [chance.choice((100, 101, 102, 103, 104, 105, 999)) for _ in sizes]
    if chance.random() < 0.5:
        codes = chance.sample(range(100, 108), len(sizes))
    return judge(sizes, codes)


def random_text(chance):
    signs = signs_of(written_code(chance.choice((100, 101, 102, 103, 104, 105, 106, 999))))
    if chance.random() < 0.2:
        signs[chance.randint(0, 3)] = chance.randint(47, 80)
    return signs[:chance.randint(0, 4)] if chance.random() < 0.1 else signs


def random_question(chance, number, count):
    some_code = chance.choice((99, 100, 101, 102, 103, 104, 999, 1000))
    return chance.choice([
        plan(), random_parting(chance, count), random_parting(chance, count), code(number), district(some_code),
        read(number, random_text(chance)), read(number, random_text(chance)), text(some_code),
        check(random_text(chance)), history(number), history(number), retired(), row(), counts(),
        free(chance.choice((0, 1, 3, 10, 50, 51))),
    ])


def random_line(chance, length):
    """A line and its slow answers, with at most six points at a time, and at most 40 plans and adoptions."""
    slow = SlowTown()
    calls = [begin(chance.randint(0, 3), chance.randint(3, 7))]
    expected = [slow.answer(calls[0])]
    partings = 0
    while len(calls) < length:
        numbers = [one["number"] for one in slow.standing]
        if not numbers or chance.random() < 0.2:
            numbers = [-1, 0, slow.following, slow.following + 1] + list(range(1, slow.following))
        number = chance.choice(numbers)
        call = random_change(chance, number)
        if chance.random() < 0.5:
            call = random_question(chance, number, len(slow.standing))
        if call[0] == 1 and len(slow.standing) == 6 or call[0] in (6, 7) and partings == 40:
            continue
        partings += call[0] in (6, 7)
        calls.append(call)
        expected.append(slow.answer(call))
    return calls, expected


class WholeLines(unittest.TestCase):
    def check(self, chance, length):
        calls, expected = random_line(chance, length)
        handed_in = joined(calls)
        self.assertEqual(ask(calls), expected, calls)
        first = answers(handed_in)
        self.assertEqual(handed_in, joined(calls))
        self.assertEqual(answers(handed_in), first)
        return calls, expected

    def test_lines_of_60_calls(self):
        chance = random.Random(3)
        for _ in range(200):
            self.check(chance, 60)

    def test_lines_of_400_calls(self):
        chance = random.Random(5)
        met = set()
        for _ in range(10):
            calls, expected = self.check(chance, 400)
            met |= {(call[0], answer[0]) for call, answer in zip(calls, expected)}
        # Else the lines would not say much: each call, and each way in which a code is read, is among them.
        self.assertEqual({number for number, answer in met}, set(range(19)))
        self.assertEqual({answer for number, answer in met if number == 11}, {1, 2, 0, -1, -4, -2})


class LargeTowns(unittest.TestCase):
    def test_the_plan_might_be_and_is_what_is_adopted(self):
        chance = random.Random(4)
        for _ in range(30):
            calls = [begin(chance.randint(0, 40), 50)]
            calls += [point(chance.randint(0, place), chance.randint(0, 20)) for place in range(40)]
            calls += [adopt(), day(1)]
            calls += [load(chance.randint(1, 40), chance.randint(0, 20)) for _ in range(20)]
            calls += [remove(number) for number in chance.sample(range(1, 41), 5)]
            calls += [point(chance.randint(0, 30), chance.randint(0, 20)) for _ in range(3)]
            calls += [cap(chance.randint(20, 60))]
            told = last(calls + [plan()])
            sizes, codes = told[4::2], told[5::2]
            found = ask(calls + [judge(sizes, codes), adopt(), adopt()])[-3:]
            self.assertEqual(found[0], [1, 2, told[0], told[2]])
            self.assertEqual(found[1][:3], [38 - told[2], 2, told[0]])
            self.assertEqual(found[2], [0, 2, told[0], 0])


if __name__ == "__main__":
    unittest.main()
