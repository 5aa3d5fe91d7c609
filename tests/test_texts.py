"""text, check and read: a code's text there and back, the texts that are not read, and codes told with a point."""

import unittest

from helper import GREATEST_WHOLE, LEAST_WHOLE, adopt, ask, begin, cap, check, code, counts, day, history, last
from helper import point, read, remove, signs_of, text, town_with_stretches, written_code

NOT_READ = [
    "", "B", "100", "100BB", "0100B", "100B ", " 100B", "10B", "1000B", "100B" * 25,
    "100A", "100C", "100b", "100L", "1008", "100\x00", "100\xff", "999A", "122B",
    "1:0B", "1/0B", "/00B", "10:B", "-00B", " 00B", "+00B", "B001", "1\x000B", "\xb200B",
    "000A", "099B", "001D", "010C", "000B",
]


class Text(unittest.TestCase):
    def test_ordinary(self):
        # 3 + 0 + 24 = 27 leaves 5, F; 1 + 4 + 6 = 11 leaves 0, A; 1 + 2 + 18 = 21 leaves 10, K.
        self.assertEqual(ask([text(308), text(122), text(116)]),
                         [[0, 4, 51, 48, 56, 70], [0, 4, 49, 50, 50, 65], [0, 4, 49, 49, 54, 75]])

    def test_edges_of_the_range(self):
        self.assertEqual(ask([text(100), text(999)]), [[0, 4, 49, 48, 48, 66], [0, 4, 57, 57, 57, 75]])
        for number in (99, 1000, 0, -1, -100, 1100, LEAST_WHOLE, GREATEST_WHOLE):
            self.assertEqual(last([text(number)]), [-1])

    def test_every_code_there_and_back(self):
        for start in range(100, 1000, 100):
            numbers = range(start, start + 100)
            for number, told in zip(numbers, ask([text(number) for number in numbers])):
                self.assertEqual(told, [0, 4] + signs_of(written_code(number)))
                self.assertEqual(ask([check(told[2:])]), [[number]])

    def test_the_letters_stand_for_0_to_10(self):
        letters = {told[5] for told in ask([text(number) for number in range(100, 400)])}
        self.assertEqual(letters, set(range(65, 76)))

    def test_codes_that_points_have_or_not_alike(self):
        town = town_with_stretches([1, 1]) + [remove(2)]
        self.assertEqual(ask(town + [text(100), text(101), text(102)])[-3:],
                         [[0, 4] + signs_of("100B"), [0, 4] + signs_of("101E"), [0, 4] + signs_of("102H")])


class Check(unittest.TestCase):
    def test_ordinary(self):
        self.assertEqual(ask([check(signs_of("308F")), check(signs_of("100B")), check(signs_of("999K"))]),
                         [[308], [100], [999]])

    def test_texts_that_are_not_read(self):
        for written in NOT_READ:
            self.assertEqual(last([check(signs_of(written))]), [0], written)

    def test_one_letter_alone(self):
        for start in range(0, 256, 64):
            found = ask([check(signs_of("308") + [letter]) for letter in range(start, start + 64)])
            self.assertEqual(found, [[308 if letter == 70 else 0] for letter in range(start, start + 64)])

    def test_digits_alone(self):
        # A sign below or above the digits is not taken for one, whatever the letter.
        for place in range(3):
            for sign in (0, 32, 45, 47, 58, 65, 255):
                for letter in range(65, 76):
                    signs = signs_of("555") + [letter]
                    signs[place] = sign
                    self.assertEqual(last([check(signs)]), [0])

    def test_long_texts_and_what_comes_behind_them(self):
        self.assertEqual(ask([check([255] * 100), check([]), check(signs_of("100B")), day(3)]), [[0], [0], [100], [3]])

    def test_a_code_that_no_point_has(self):
        self.assertEqual(last([point(0, 1), adopt(), check(signs_of("999K"))]), [999])


def reads(town, number, *codes):
    """The answers of read, each code told by its text."""
    return ask(town + [read(number, signs_of(written_code(one))) for one in codes])[len(town):]


class Read(unittest.TestCase):
    # Points 1, 2, 3 with codes 100, 101, 102 since day 0; on day 4 all have 100. The grace is 5 days.
    town = town_with_stretches([1, 1, 1], grace=5) + [day(4), cap(3), adopt()]

    def test_its_own_code(self):
        self.assertEqual(reads(self.town, 1, 100), [[1, 1, 100]])
        self.assertEqual(reads(self.town + [day(1000)], 3, 100), [[1, 1, 100]])

    def test_a_code_that_it_had(self):
        self.assertEqual(reads(self.town, 2, 101), [[2, 1, 100]])
        self.assertEqual(reads(self.town, 3, 102), [[2, 1, 100]])

    def test_on_the_last_day_and_on_the_day_behind(self):
        self.assertEqual(reads(self.town + [day(5)], 2, 101, 100), [[2, 1, 100], [1, 1, 100]])
        self.assertEqual(reads(self.town + [day(6)], 2, 101, 100), [[0, 1, 100], [1, 1, 100]])

    def test_grace_of_0(self):
        town = town_with_stretches([1, 1], grace=0) + [cap(2), adopt()]
        self.assertEqual(reads(town, 2, 101), [[2, 1, 100]])
        self.assertEqual(reads(town + [day(1)], 2, 101), [[0, 1, 100]])

    def test_a_code_that_it_never_had(self):
        self.assertEqual(reads(self.town, 2, 102, 103, 999), [[0, 1, 100]] * 3)
        self.assertEqual(reads(self.town, 1, 101), [[0, 1, 100]])

    def test_a_code_that_it_had_and_others_have_still(self):
        # 100 over two points is parted into 100 and 101: the second point had 100 and reads it for a while.
        town = town_with_stretches([2], grace=3) + [day(1), adopt()]
        self.assertEqual(reads(town + [day(3)], 2, 100, 101), [[2, 1, 101], [1, 1, 101]])
        self.assertEqual(reads(town + [day(4)], 2, 100, 101), [[0, 1, 101], [1, 1, 101]])

    def test_several_codes_that_it_had(self):
        # The second point has 101 until day 0, 100 until day 2, then 102.
        town = town_with_stretches([1, 1], grace=4) + [cap(2), adopt(), day(2), cap(1), adopt()]
        for days, expected in [(2, [2, 2, 1]), (3, [0, 2, 1]), (4, [0, 2, 1]), (5, [0, 0, 1])]:
            self.assertEqual([told[0] for told in reads(town + [day(days)], 2, 101, 100, 102)], expected)

    def had_twice(self):
        # Grace 2. The second point has 101 until day 0, 100 until day 3, 101 again until day 7, then 100.
        return town_with_stretches([1, 1], grace=2) + [
            cap(2), adopt(), day(3), cap(1), adopt(), day(4), cap(2), adopt()]

    def test_a_code_that_it_had_twice(self):
        town = self.had_twice()
        self.assertEqual(last(town + [history(2)]), [3, 3, 101, 0, 0, 3, 100, 0, 3, 3, 101, 3, 7])
        self.assertEqual(reads(town + [day(2)], 2, 101), [[2, 1, 100]])
        self.assertEqual(reads(town + [day(3)], 2, 101), [[0, 1, 100]])

    def test_its_own_code_that_it_had_before(self):
        # Until day 3 it had 100, and since day 4 it has it again, within the grace.
        town = town_with_stretches([1, 1], grace=2) + [
            cap(2), adopt(), day(3), cap(1), adopt(), day(1), cap(2), adopt()]
        self.assertEqual(last(town + [code(2)])[:3], [100, 2, 4])
        self.assertEqual(reads(town, 2, 100, 101), [[1, 1, 100], [2, 1, 100]])

    def test_a_point_without_a_code(self):
        self.assertEqual(reads([point(0, 1)], 1, 100, 999), [[0, 1, 0], [0, 1, 0]])

    def test_a_new_point_did_not_have_what_its_neighbour_had(self):
        self.assertEqual(reads(self.town + [point(2, 1)], 4, 101, 100), [[0, 1, 100], [1, 1, 100]])

    def test_no_points(self):
        self.assertEqual(reads([], 1, 100), [[-4]])
        self.assertEqual(reads([begin(5, 5)], 1, 100), [[-4]])

    def test_edges_of_the_range(self):
        for number, expected in [(0, -1), (1, 1), (3, 2), (4, -4), (1000000, -4), (1000001, -1), (-1, -1),
                                 (LEAST_WHOLE, -1), (GREATEST_WHOLE, -1)]:
            written = "102H" if number == 3 else "100B"
            self.assertEqual(last(self.town + [read(number, signs_of(written))])[0], expected)

    def test_a_point_taken_away(self):
        self.assertEqual(reads(self.town + [remove(2)], 2, 100, 101), [[-4], [-4]])

    def test_texts_that_are_not_read(self):
        for written in NOT_READ:
            self.assertEqual(last(self.town + [read(1, signs_of(written))]), [-2], written)

    def test_the_first_refusal_in_order(self):
        for number in (0, 1000001):
            self.assertEqual(last(self.town + [read(number, [])]), [-1])
        for number in (4, 1000000):
            self.assertEqual(last(self.town + [read(number, signs_of("100A"))]), [-4])

    def test_nothing_changes_and_the_next_call_is_found(self):
        before = last(self.town + [counts()])
        calls = [read(0, [255] * 100), read(9, signs_of("100B")), read(1, [9]), read(2, signs_of("101E")), counts()]
        self.assertEqual(ask(self.town + calls)[-5:], [[-1], [-4], [-2], [2, 1, 100], before])


if __name__ == "__main__":
    unittest.main()
