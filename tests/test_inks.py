"""[5] Inks as they are laid, [8] the colour of a stack, and [0.2] as far as it touches them."""

import copy
import itertools
import unittest

from lostblock.inks import colour_of, laid
from samples import BENCHES, EIGHT_COVERS, EIGHT_GLAZES, GLAZED, PLAIN, SINGLE

COLOURS = ("a", "red", "redd", "rad", "blue", "white", "yellow", "abcdefgh")


class Laid(unittest.TestCase):
    def test_a_cover_shows_its_colour_on_any_colour(self):
        for own in COLOURS:
            for under in COLOURS:
                self.assertEqual(laid(("cover", "ink", own), under), own)

    def test_a_cover_s_name_is_no_colour(self):
        self.assertEqual(laid(("cover", "red", "blue"), "red"), "blue")

    def test_a_glaze_of_one_pair(self):
        glaze = ("glaze", "mist", (("red", "blue"),))
        self.assertEqual(laid(glaze, "red"), "blue")
        for colour in ("a", "redd", "rad", "blue", "white", "re", "red" * 2):
            self.assertEqual(laid(glaze, colour), colour)

    def test_a_glaze_of_eight_pairs(self):
        unders = ("a", "aa", "ab", "b", "ba", "abcdefgh", "abcdefgi", "abcdefg")
        overs = ("aa", "a", "b", "ab", "red", "abcdefg", "a", "abcdefgi")
        glaze = ("glaze", "mist", tuple(zip(unders, overs)))
        for under, over in zip(unders, overs):
            self.assertEqual(laid(glaze, under), over)
        for colour in ("aaa", "c", "red", "bcdefgh", "abcdef"):
            self.assertEqual(laid(glaze, colour), colour)

    def test_it_is_laid_once(self):
        glaze = ("glaze", "mist", (("a", "b"), ("b", "c"), ("c", "a")))
        self.assertEqual([laid(glaze, colour) for colour in "abcd"], ["b", "c", "a", "d"])

    def test_under_and_over_alike(self):
        glaze = ("glaze", "mist", (("red", "red"), ("blue", "red")))
        self.assertEqual(laid(glaze, "red"), "red")
        self.assertEqual(laid(glaze, "blue"), "red")

    def test_an_over_is_no_under(self):
        self.assertEqual(laid(("glaze", "mist", (("red", "blue"),)), "blue"), "blue")

    def test_a_word_that_is_no_colour_of_the_bench(self):
        for ink in GLAZED[1]:
            told = laid(ink, "nowhere")
            self.assertEqual(told, ink[2] if ink[0] == "cover" else "nowhere")


class ColourOf(unittest.TestCase):
    def test_of_no_ink_the_paper(self):
        for bench in BENCHES:
            self.assertEqual(colour_of(bench, ()), bench[0])

    def test_of_one_ink(self):
        for bench in BENCHES:
            for number, ink in enumerate(bench[1]):
                self.assertEqual(colour_of(bench, (number,)), laid(ink, bench[0]))

    def test_covers_by_hand(self):
        self.assertEqual(colour_of(PLAIN, (0,)), "yellow")
        self.assertEqual(colour_of(PLAIN, (1,)), "blue")
        self.assertEqual(colour_of(PLAIN, (0, 1)), "blue")

    def test_glazes_over_covers_and_covers_over_glazes_by_hand(self):
        awaited = {
            (1,): "grey", (3,): "white", (0, 1): "green", (0, 2): "black", (0, 3): "yellow", (1, 2): "black",
            (1, 3): "white", (2, 3): "grey", (0, 1, 2): "black", (0, 1, 3): "green", (0, 1, 2, 3): "grey",
        }
        for stack, colour in awaited.items():
            self.assertEqual(colour_of(GLAZED, stack), colour, stack)

    def test_a_glaze_that_changes_nothing(self):
        self.assertEqual(colour_of(SINGLE, (0,)), "white")

    def test_of_all_of_eight(self):
        self.assertEqual(colour_of(EIGHT_COVERS, tuple(range(8))), "hh")
        self.assertEqual(colour_of(EIGHT_GLAZES, tuple(range(8))), "a")
        self.assertEqual(colour_of(EIGHT_GLAZES, tuple(range(7))), "h")
        self.assertEqual(colour_of(EIGHT_GLAZES, (0, 3, 7)), "d")

    def test_the_inks_are_laid_in_their_order(self):
        first = ("cover", "a", "red")
        second = ("glaze", "b", (("red", "blue"),))
        self.assertEqual(colour_of(("white", [first, second]), (0, 1)), "blue")
        self.assertEqual(colour_of(("white", [second, first]), (0, 1)), "red")

    def test_every_stack_ink_by_ink(self):
        for bench in BENCHES:
            numbers = range(len(bench[1]))
            for many in range(len(bench[1]) + 1):
                for stack in itertools.combinations(numbers, many):
                    colour = bench[0]
                    for number in stack:
                        colour = laid(bench[1][number], colour)
                    self.assertEqual(colour_of(bench, stack), colour)

    def test_the_bench_handed_in_stays(self):
        for bench in BENCHES:
            kept = copy.deepcopy(bench)
            colour_of(bench, ())
            colour_of(bench, tuple(range(len(bench[1]))))
            self.assertEqual(bench, kept)


if __name__ == "__main__":
    unittest.main()
