"""answers(calls): how calls are handed in and answered, that nothing is changed or kept, and how long it takes."""

import builtins
import contextlib
import io
import time
import unittest

from helper import adopt, begin, cap, check, code, counts, day, district, free, history, joined, judge, load, plan
from helper import point, read, remove, retired, row, signs_of, split, text

from postdistricts.town import answers

ALL_TEN = joined([
    begin(5, 10), point(0, 4), point(1, 7), load(1, 5), plan(), adopt(), day(2), judge([1, 1], [100, 101]),
    code(2), cap(9), remove(1), remove(1), judge([-1], []), cap(3), plan(),
])
OTHER_NINE = joined([
    district(101), cap(7), point(1, 0), adopt(), district(101), read(2, signs_of("101E")), read(2, []),
    text(101), text(1), check(signs_of("101E")), check([]), cap(10), load(3, 7), adopt(), history(3), history(1),
    retired(), row(), free(2), free(0), counts(), read(3, signs_of("101E")),
])
ALL_CALLS = ALL_TEN + OTHER_NINE


class Form(unittest.TestCase):
    def test_each_answer_with_how_many_numbers_it_has(self):
        self.assertEqual(answers(list(ALL_TEN)), [
            1, 0, 1, 1, 1, 2, 1, 4, 8, 2, 1, 0, 4, 1, 100, 1, 101, 4, 2, 2, 2, 0, 1, 2, 4, 1, 2, 2, 2,
            4, 101, 2, 0, 7, 1, 10, 1, 100, 1, -4, 1, -2, 1, 9, 1, -7,
        ])

    def test_each_answer_of_the_other_nine(self):
        told = answers(list(ALL_CALLS))
        self.assertEqual(told[:46], answers(list(ALL_TEN)))
        self.assertEqual(told[46:], [
            5, 1, 1, 2, 1, 7, 1, 3, 1, 3, 4, 0, 2, 1, 0, 6, 2, 2, 2, 3, 1, 7, 3, 1, 1, 101, 1, -2,
            6, 0, 4, 49, 48, 49, 69, 1, -1, 1, 101, 1, 0, 1, 7, 1, 0, 4, 1, 2, 2, 0, 5, 1, 3, 101, 2, 2, 1, -4,
            4, 1, 2, 100, 2, 8, 2, 6, 2, 7, 101, 3, 7, 102, 4, 2, 2, 103, 104, 1, -1, 8, 2, 6, 5, 10, 2, 2, 1, 4,
            3, 2, 1, 102,
        ])

    def test_empty_rows_are_there(self):
        self.assertEqual(split(answers(joined([plan(), district(100), retired(), row()]))),
                         [[0, 1, 0, 0], [0, 0, 1, 0], [0, 0], [0, 0]])

    def test_whole_numbers_and_lists_alone(self):
        found = answers(list(ALL_CALLS))
        self.assertIs(type(found), list)
        self.assertEqual({type(number) for number in found}, {int})

    def test_one_call(self):
        self.assertEqual(answers([5, 0]), [1, 0])
        self.assertEqual(answers([6]), [4, 0, 1, 0, 0])
        self.assertEqual(answers([8, 0, 0]), [4, 1, 2, 0, 0])

    def test_rows_are_read_to_their_end_and_no_further(self):
        self.assertEqual(answers([8, 2, 5, 7, 3, 8, 8, 8, 5, 9]), [1, 0, 1, 9])
        self.assertEqual(answers([8, 2, -5, 7, 1, 8, 5, 9]), [1, -2, 1, 9])
        self.assertEqual(answers([13, 5, 5, 9, 5, 9, 5, 5, 9]), [1, 0, 1, 9])
        self.assertEqual(answers([11, 0, 3, 5, 9, 5, 5, 9]), [1, -1, 1, 9])
        self.assertEqual(answers([11, 1, 0, 5, 9]), [1, -4, 1, 9])


class NothingKept(unittest.TestCase):
    def test_the_list_is_the_same_behind_the_call(self):
        handed_in = list(ALL_CALLS)
        answers(handed_in)
        self.assertEqual(handed_in, ALL_CALLS)

    def test_the_list_is_never_changed_even_for_a_while(self):
        class Watched(list):
            def refuse(self, *given):
                raise AssertionError("the list that is handed in was changed")
            append = extend = insert = pop = remove = clear = sort = reverse = refuse
            __setitem__ = __delitem__ = __iadd__ = __imul__ = refuse
        self.assertEqual(answers(Watched(ALL_CALLS)), answers(list(ALL_CALLS)))

    def test_twice_the_same(self):
        first = answers(list(ALL_CALLS))
        answers(joined([begin(1, 1), point(0, 1), adopt(), day(1000)]))
        self.assertEqual(answers(list(ALL_CALLS)), first)

    def test_what_is_given_back_is_not_kept(self):
        first = answers(list(ALL_CALLS))
        kept = list(first)
        first.clear()
        self.assertEqual(answers(list(ALL_CALLS)), kept)

    def test_prints_and_imports_nothing(self):
        def refuse(*given, **named):
            raise AssertionError("an import within a call")
        shown = io.StringIO()
        usual = builtins.__import__
        with contextlib.redirect_stdout(shown), contextlib.redirect_stderr(shown):
            builtins.__import__ = refuse
            try:
                answers(list(ALL_CALLS))
            finally:
                builtins.__import__ = usual
        self.assertEqual(shown.getvalue(), "")


class Time(unittest.TestCase):
    def check(self, calls):
        self.assertLessEqual(len(calls), 400)
        self.assertLessEqual(len([call for call in calls if call[0] in (6, 7)]), 40)
        start = time.perf_counter()
        answers(joined(calls))
        self.assertLess(time.perf_counter() - start, 10)

    def test_forty_codes_in_one_district(self):
        forty = [point(0, 1) for _ in range(40)]
        self.check(forty + [cap(1), adopt(), cap(40)] + [plan()] * 39 + [judge([1] * 20, [100] * 20)] * 318)

    def test_forty_codes_and_one_by_turns(self):
        self.check([begin(1000, 40)] + [point(0, 1) for _ in range(40)]
                   + [cap(1), adopt(), cap(40), adopt()] * 20 + [code(1)] * 279)

    def test_one_code_over_all_and_loads_of_0(self):
        self.check([point(0, 0) for _ in range(40)] + [adopt()] + [plan()] * 39 + [day(1)] * 320)

    def test_two_codes_by_turns(self):
        self.check([point(0, 1) for _ in range(40)] + [cap(2), adopt()] + [cap(3), adopt(), cap(20), adopt()] * 19)

    def test_long_histories_and_many_retired_codes(self):
        town = [begin(1000, 1)] + [point(0, 1)] * 40 + [adopt(), cap(40), adopt(), cap(1)] * 20
        for call in (history(40), retired(), row(), free(50), counts(), district(100), read(40, signs_of("100B")),
                     judge([1] * 40, list(range(960, 1000)))):
            self.check(town + [call] * 279)


if __name__ == "__main__":
    unittest.main()
