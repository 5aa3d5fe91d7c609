"""The text of a code: its digits and letter, and which texts are read."""

import unittest

from helper import signs_of

from postdistricts.lettering import code_read_from, text_of


class Lettering(unittest.TestCase):
    def test_texts(self):
        # 1 is B; 9 + 18 + 27 = 54 leaves 10, K; 1 + 4 + 6 = 11 leaves 0, A; 3 + 0 + 24 = 27 leaves 5, F.
        for code, text in [(100, "100B"), (999, "999K"), (122, "122A"), (308, "308F"), (120, "120F"), (101, "101E")]:
            self.assertEqual(text_of(code), signs_of(text))

    def test_each_code_is_read_from_its_text(self):
        for code in range(100, 1000):
            self.assertEqual(code_read_from(text_of(code)), code)

    def test_another_letter_is_not_read(self):
        for letter in range(256):
            self.assertEqual(code_read_from(signs_of("308") + [letter]), 308 if letter == ord("F") else 0)

    def test_another_sign_is_not_read(self):
        for place in range(3):
            for sign in list(range(48)) + list(range(58, 256)):
                text = signs_of("100B")
                text[place] = sign
                self.assertEqual(code_read_from(text), 0)

    def test_another_length_is_not_read(self):
        for text in ["", "B", "100", "100BB", "0100B", "100B ", "10B", "100B" * 25]:
            self.assertEqual(code_read_from(signs_of(text)), 0)

    def test_a_number_below_100_is_not_read(self):
        # Their letters are right.
        for text in ["000A", "099B", "001D", "010C"]:
            self.assertEqual(code_read_from(signs_of(text)), 0)

    def test_the_text_is_not_changed(self):
        text = signs_of("308F")
        code_read_from(text)
        self.assertEqual(text, signs_of("308F"))


if __name__ == "__main__":
    unittest.main()
