"""[6], [7] Benches as they are written, and [0.2] as far as it touches them."""

import copy
import unittest

from lostblock.benches import read_bench, shown_bench
from lostblock.errors import BlockError, NoBench
from samples import BENCHES, Draw, GLAZED

PAPER = "paper white"
COVER = "cover sun yellow"
NO_WORDS = ("", "Red", "red1", "nineletts", "re-d", "red\t", "\t", "0", "red\r")


def glaze_row(name, many):
    return " ".join(["glaze", name] + [letter + " z" for letter in "abcdefghijkl"[:many]])


def cover_rows(many):
    return ["cover " + letter + " red" for letter in "abcdefghijkl"[:many]]


class Written(unittest.TestCase):
    def assert_kinds(self, bench):
        self.assertIs(type(bench), tuple)
        self.assertEqual(len(bench), 2)
        self.assertIs(type(bench[0]), str)
        self.assertIs(type(bench[1]), list)
        for ink in bench[1]:
            self.assertIs(type(ink), tuple)
            self.assertEqual(len(ink), 3)
            if ink[0] == "glaze":
                self.assertIs(type(ink[2]), tuple)
                for pair in ink[2]:
                    self.assertIs(type(pair), tuple)
                    self.assertEqual(len(pair), 2)
            else:
                self.assertIs(type(ink[2]), str)

    def test_by_hand(self):
        self.assertEqual(shown_bench(GLAZED), "\n".join([
            "paper white", "cover sun yellow", "glaze mist yellow green white grey", "cover night black",
            "glaze fog black grey green green grey white",
        ]))

    def test_read_by_hand(self):
        text = "paper a\nglaze b c d e f\ncover c abcdefgh"
        awaited = ("a", [("glaze", "b", (("c", "d"), ("e", "f"))), ("cover", "c", "abcdefgh")])
        self.assertEqual(read_bench(text), awaited)

    def test_one_ink(self):
        self.assertEqual(read_bench("paper a\ncover b c"), ("a", [("cover", "b", "c")]))
        self.assertEqual(read_bench("paper a\nglaze b c c"), ("a", [("glaze", "b", (("c", "c"),))]))

    def test_eight_inks_and_eight_pairs(self):
        told = read_bench("\n".join([PAPER] + cover_rows(7) + [glaze_row("mist", 8)]))
        self.assert_kinds(told)
        self.assertEqual([ink[1] for ink in told[1]], list("abcdefg") + ["mist"])
        self.assertEqual(told[1][7][2], tuple((letter, "z") for letter in "abcdefgh"))

    def test_names_that_are_colours_or_other_words_of_the_rows(self):
        text = "paper paper\ncover cover cover\nglaze glaze glaze paper paper glaze\ncover paper glaze"
        awaited = ("paper", [
            ("cover", "cover", "cover"), ("glaze", "glaze", (("glaze", "paper"), ("paper", "glaze"))),
            ("cover", "paper", "glaze"),
        ])
        self.assertEqual(read_bench(text), awaited)
        self.assertEqual(shown_bench(awaited), text)

    def test_what_is_shown_is_read_again(self):
        draw = Draw(5)
        for bench in BENCHES + [draw.bench(8, "abcdefgh") for time in range(200)]:
            text = shown_bench(bench)
            self.assertEqual(len(text.split("\n")), len(bench[1]) + 1)
            told = read_bench(text)
            self.assert_kinds(told)
            self.assertEqual(told, bench)
            self.assertEqual(shown_bench(told), text)

    def test_the_bench_handed_in_stays(self):
        for bench in BENCHES:
            kept = copy.deepcopy(bench)
            shown_bench(bench)
            self.assertEqual(bench, kept)

    def test_the_list_told_is_the_asker_s_own(self):
        for bench in BENCHES:
            text = shown_bench(bench)
            told = read_bench(text)
            told[1].append(("cover", "late", "red"))
            told[1].reverse()
            self.assertEqual(read_bench(text), bench)
            told[1].clear()
            self.assertEqual(read_bench(text), bench)


class Refused(unittest.TestCase):
    def assert_refused(self, text, row):
        with self.assertRaises(NoBench) as taken:
            read_bench(text)
        self.assertEqual(taken.exception.row, row, repr(text))
        self.assertIs(type(taken.exception.row), int)
        self.assertIsInstance(taken.exception, BlockError)

    def assert_row_refused(self, row):
        """The row can't stand, whichever ink's row it is."""
        self.assert_refused(PAPER + "\n" + row, 1)
        self.assert_refused("\n".join([PAPER, COVER, row]), 2)
        self.assert_refused("\n".join([PAPER, COVER, row, "cover sea blue"]), 2)
        self.assert_refused("\n".join([PAPER] + cover_rows(7) + [row]), 8)

    def test_the_text_without_signs(self):
        self.assert_refused("", 0)

    def test_the_first_row(self):
        for row in ("paper", "paper white red", "Paper white", "papers white", "cover white", "white", "white paper",
                    COVER, "glaze mist a b", "paper  white", " paper white", "paper white ", "paper ", "paper\twhite",
                    "paper white\t", "paper\rwhite", " "):
            self.assert_refused(row, 0)
            self.assert_refused(row + "\n" + COVER, 0)
        for word in NO_WORDS:
            self.assert_refused("paper " + word + "\n" + COVER, 0)

    def test_the_text_ends_behind_the_first_row(self):
        self.assert_refused(PAPER, 1)
        self.assert_refused("paper abcdefgh", 1)

    def test_another_first_word(self):
        for row in ("covers sun yellow", "Cover sun yellow", "paper sun yellow", "paper white", "sun yellow", "glazes a b c",
                    "glas mist a b", "cove sun yellow", "mist a b"):
            self.assert_row_refused(row)

    def test_too_few_or_too_many_words(self):
        for row in ("cover", "cover sun", "cover sun yellow red", "cover sun yellow red blue", "glaze", "glaze mist"):
            self.assert_row_refused(row)

    def test_an_under_without_an_over(self):
        for many in range(9):
            self.assert_row_refused(glaze_row("mist", many) + " k")

    def test_a_word_that_is_none(self):
        for word in NO_WORDS:
            for row in (word, "cover " + word + " red", "cover sun " + word, "glaze " + word + " a b",
                        "glaze mist " + word + " b", "glaze mist a " + word, "glaze mist a b c " + word,
                        "glaze mist a b " + word + " c"):
                self.assert_row_refused(row)

    def test_no_pair_and_nine_pairs(self):
        self.assert_row_refused(glaze_row("mist", 0))
        self.assert_row_refused(glaze_row("mist", 9))
        self.assert_row_refused(glaze_row("mist", 10))

    def test_two_pairs_with_one_under(self):
        for row in ("glaze mist a b a c", "glaze mist a b a b", "glaze mist a a a a", "glaze mist a b c d a e",
                    glaze_row("mist", 7) + " a k", glaze_row("mist", 7) + " g z"):
            self.assert_row_refused(row)

    def test_a_name_that_an_ink_ahead_has(self):
        self.assert_refused("\n".join([PAPER, COVER, "cover sun red"]), 2)
        self.assert_refused("\n".join([PAPER, COVER, "glaze sun a b"]), 2)
        self.assert_refused("\n".join([PAPER, "glaze sun a b", "cover sea red", COVER, COVER]), 3)
        self.assert_refused("\n".join([PAPER] + cover_rows(7) + ["cover a red"]), 8)

    def test_a_ninth_ink(self):
        self.assert_refused("\n".join([PAPER] + cover_rows(9)), 9)
        self.assert_refused("\n".join([PAPER] + cover_rows(12)), 9)
        self.assert_refused("\n".join([PAPER] + cover_rows(8) + ["x y"]), 9)

    def test_a_row_without_signs(self):
        self.assert_row_refused("")
        self.assert_refused("\n" + PAPER + "\n" + COVER, 0)
        self.assert_refused("\n", 0)
        self.assert_refused(PAPER + "\n\n" + COVER, 1)

    def test_a_line_end_behind_the_text(self):
        self.assert_refused(PAPER + "\n", 1)
        self.assert_refused(PAPER + "\n" + COVER + "\n", 2)
        self.assert_refused(PAPER + "\n" + COVER + "\n\n", 2)
        self.assert_refused("\n".join([PAPER] + cover_rows(8)) + "\n", 9)

    def test_blanks_and_tabs(self):
        for row in ("cover  sun yellow", "cover sun  yellow", " cover sun yellow", "cover sun yellow ", "cover sun ",
                    "cover\tsun yellow", "cover sun\tyellow", "cover sun yellow\t", "\tcover sun yellow", " ", "  ",
                    "glaze  mist a b", "glaze mist  a b", "glaze mist a  b", " glaze mist a b", "glaze mist a b ",
                    "glaze mist a b  ", "glaze mist a\tb", "cover sun yellow\r", "cover sun\x0byellow"):
            self.assert_row_refused(row)

    def test_the_first_row_that_can_t_stand_counts(self):
        self.assert_refused("paper\ncover\nx", 0)
        self.assert_refused("paper\n", 0)
        self.assert_refused(PAPER + "\ncover\nx\n", 1)
        self.assert_refused("\n".join([PAPER, COVER, COVER, "x", ""]), 2)
        self.assert_refused("\n".join([PAPER, COVER, "x", COVER]), 2)
        self.assert_refused("\n".join([PAPER] + cover_rows(7) + ["x"] + cover_rows(3)), 8)
        self.assert_refused("\n".join([PAPER, "cover sun Red", "cover sun red", "cover sun red"]), 1)

    def test_a_refused_row_takes_no_name(self):
        self.assert_refused("\n".join([PAPER, "cover sun red blue", COVER]), 1)


if __name__ == "__main__":
    unittest.main()
