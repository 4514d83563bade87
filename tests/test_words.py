"""[4] Words."""

import unittest

from lostblock.words import is_word

SMALL = "abcdefghijklmnopqrstuvwxyz"


class Words(unittest.TestCase):
    def test_each_small_letter_is_a_word(self):
        for letter in SMALL:
            self.assertIs(is_word(letter), True, letter)

    def test_one_to_eight_letters_are_a_word(self):
        for many in range(1, 9):
            self.assertIs(is_word("z" * many), True, many)
            self.assertIs(is_word(SMALL[:many]), True, many)
            self.assertIs(is_word(SMALL[-many:]), True, many)

    def test_no_letter_is_none(self):
        self.assertIs(is_word(""), False)

    def test_nine_letters_and_more_are_none(self):
        for many in (9, 10, 16, 26, 100):
            self.assertIs(is_word("a" * many), False, many)

    def test_each_other_ascii_sign_is_none_wherever_it_stands(self):
        for number in range(128):
            sign = chr(number)
            if sign in SMALL:
                continue
            for text in (sign, sign + "ab", "a" + sign + "b", "ab" + sign):
                self.assertIs(is_word(text), False, repr(text))

    def test_blanks_tabs_and_line_ends(self):
        for text in (" ", "red ", " red", "re d", "\t", "red\t", "\n", "red\n", "\nred", "red\r", "red\r\n"):
            self.assertIs(is_word(text), False, repr(text))

    def test_a_line_end_does_not_hide_behind_the_length(self):
        self.assertIs(is_word("abcdefg\n"), False)
        self.assertIs(is_word("abcdefgh\n"), False)

    def test_great_letters_and_figures(self):
        for text in ("A", "Red", "reD", "RED", "0", "red1", "1red", "12345678"):
            self.assertIs(is_word(text), False, text)

    def test_things_that_are_no_texts(self):
        for thing in (None, True, 0, 5, (), ("r", "e", "d"), ["red"], ["r", "e", "d"], {}, b"red"):
            self.assertIs(is_word(thing), False, repr(thing))


if __name__ == "__main__":
    unittest.main()
