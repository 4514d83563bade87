"""[9] Pictures as they are written, and [0.2] as far as it touches them."""

import copy
import unittest

from lostblock.errors import BlockError, NoPicture
from lostblock.pictures import read_picture, shown_picture, size_of

SIZES = [(wide, high) for wide in range(1, 25) for high in range(1, 25)]
WORDS = ("a", "red", "blue", "abcdefgh", "white", "zz", "rad")
NO_WORDS = ("", "Red", "red1", "nineletts", "re-d", "red\t", "\t", "0", "red\r", ".", "#")


def picture_of(size):
    return [[WORDS[(row * 5 + column * 3) % 7] for column in range(size[0])] for row in range(size[1])]


def text_of(wide, high):
    return "\n".join([" ".join(["red"] * wide)] * high)


class Written(unittest.TestCase):
    def test_by_hand(self):
        self.assertEqual(shown_picture([["a"]]), "a")
        self.assertEqual(shown_picture([["a", "bb", "c"], ["d", "e", "red"]]), "a bb c\nd e red")
        self.assertEqual(read_picture("a"), [["a"]])
        self.assertEqual(read_picture("a bb c\nd e red"), [["a", "bb", "c"], ["d", "e", "red"]])
        self.assertEqual(read_picture("a\nb\nc"), [["a"], ["b"], ["c"]])

    def test_every_size_is_written_and_read_again(self):
        for size in SIZES:
            picture = picture_of(size)
            text = shown_picture(picture)
            self.assertEqual(text, "\n".join(" ".join(colours) for colours in picture))
            told = read_picture(text)
            self.assertEqual(told, picture)
            self.assertIs(type(told), list)
            for colours in told:
                self.assertIs(type(colours), list)
                for colour in colours:
                    self.assertIs(type(colour), str)

    def test_size_of_every_size(self):
        for size in SIZES:
            told = size_of(picture_of(size))
            self.assertEqual(told, size)
            self.assertIs(type(told), tuple)
            self.assertIs(type(told[0]), int)
            self.assertIs(type(told[1]), int)

    def test_wide_comes_first(self):
        self.assertEqual(size_of([["a", "b", "c"], ["a", "b", "c"]]), (3, 2))

    def test_the_picture_handed_in_stays(self):
        for size in ((1, 1), (3, 2), (24, 24)):
            picture = picture_of(size)
            kept = copy.deepcopy(picture)
            shown_picture(picture)
            size_of(picture)
            self.assertEqual(picture, kept)

    def test_the_lists_told_are_the_asker_s_own(self):
        for text in ("a", "a b\na b", "a a\na a\na a"):
            told = read_picture(text)
            kept = copy.deepcopy(told)
            for colours in told:
                colours[0] = "late"
                colours.append("late")
            self.assertEqual(read_picture(text), kept)
            told.clear()
            self.assertEqual(read_picture(text), kept)

    def test_alike_rows_are_lists_of_their_own(self):
        told = read_picture("a b\na b\na b")
        told[0][0] = "late"
        self.assertEqual(told, [["late", "b"], ["a", "b"], ["a", "b"]])


class Refused(unittest.TestCase):
    def assert_refused(self, text, row):
        with self.assertRaises(NoPicture) as taken:
            read_picture(text)
        self.assertEqual(taken.exception.row, row, repr(text))
        self.assertIs(type(taken.exception.row), int)
        self.assertIsInstance(taken.exception, BlockError)

    def test_the_text_without_signs(self):
        self.assert_refused("", 0)

    def test_a_row_without_signs(self):
        self.assert_refused("\na", 0)
        self.assert_refused("\n", 0)
        self.assert_refused("a\n\na", 1)
        self.assert_refused("a b\n\na b", 1)
        self.assert_refused("a b\na b\n", 2)
        self.assert_refused("a\n", 1)
        self.assert_refused(text_of(24, 24) + "\n", 24)
        self.assert_refused(text_of(24, 23) + "\n", 23)

    def test_a_word_that_is_none(self):
        for word in NO_WORDS:
            self.assert_refused(word, 0)
            self.assert_refused("red " + word, 0)
            self.assert_refused(word + " red\nred red", 0)
            self.assert_refused("red red\nred " + word + "\nred red", 1)
            self.assert_refused("red red\nred red\n" + word + " red", 2)

    def test_blanks_and_tabs(self):
        for row in ("a  b", " a b", "a b ", "a\tb", "a b\t", "\ta b", " ", "  ", "a ", " a", "a b\r", "a\x0bb"):
            self.assert_refused(row, 0)
            self.assert_refused("a b\n" + row, 1)
            self.assert_refused("a b\n" + row + "\na b", 1)
        self.assert_refused("a b c\na  c", 1)

    def test_twenty_four_words_are_read_and_twenty_five_are_not(self):
        self.assertEqual(read_picture(text_of(24, 1)), [["red"] * 24])
        self.assert_refused(text_of(25, 1), 0)
        self.assert_refused(text_of(25, 2), 0)
        self.assert_refused(text_of(30, 30), 0)
        self.assert_refused(text_of(24, 1) + "\n" + text_of(25, 1), 1)

    def test_twenty_four_rows_are_read_and_row_twenty_four_is_not(self):
        self.assertEqual(read_picture(text_of(24, 24)), [["red"] * 24] * 24)
        self.assertEqual(read_picture(text_of(1, 24)), [["red"]] * 24)
        self.assert_refused(text_of(1, 25), 24)
        self.assert_refused(text_of(24, 25), 24)
        self.assert_refused(text_of(2, 40), 24)
        self.assert_refused(text_of(1, 24) + "\nRed", 24)

    def test_not_as_long_as_row_0(self):
        self.assert_refused("a b\na", 1)
        self.assert_refused("a\na b", 1)
        self.assert_refused("a b\na b\na b c\na b", 2)

    def test_the_first_row_that_can_t_stand_counts(self):
        self.assert_refused("A\nb c\n", 0)
        self.assert_refused("a b\na\na B\n", 1)
        self.assert_refused("a b\na B\na\n", 1)
        self.assert_refused(text_of(2, 23) + "\nred\n" + text_of(2, 2), 23)
        self.assert_refused(text_of(25, 1) + "\nA\n", 0)


if __name__ == "__main__":
    unittest.main()
