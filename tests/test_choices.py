"""[21] The best choices of stacks, and [0.2] as far as it touches them."""

import copy
import itertools
import unittest

from lostblock.chains import fewest_blocks
from lostblock.choices import best_choices
from lostblock.errors import BlockError, NoStack, TooMany
from lostblock.pictures import size_of
from lostblock.press import pressed
from lostblock.stacks import least_choices, stacks_of, states_by
from samples import BENCHES, Draw, EIGHT_COVERS, GLAZED, PLAIN


def colours_in(picture):
    return sorted({colour for colours in picture for colour in colours})


def many_by_trial(bench, picture):
    many = 1
    for colour in colours_in(picture):
        many *= len(stacks_of(bench, colour))
    return many


def best_by_trial(bench, picture):
    colours = colours_in(picture)
    best = None
    for chosen in itertools.product(*[stacks_of(bench, colour) for colour in colours]):
        states = states_by(bench, picture, dict(zip(colours, chosen)))
        cells = sum(bin(state).count("1") for state in states)
        weight = (len(fewest_blocks(states)[0]), cells, list(chosen))
        if best is None or weight < best:
            best = weight
    return (dict(zip(colours, best[2])), best[0])


def red_bench(many):
    return ("white", [("cover", name, "red") for name in "abcdefgh"[:many]])


class BestChoices(unittest.TestCase):
    def assert_best(self, bench, picture):
        kept = copy.deepcopy((bench, picture))
        told = best_choices(bench, picture)
        self.assertEqual((bench, picture), kept)
        self.assertIs(type(told), tuple)
        self.assertEqual(len(told), 2)
        self.assertIs(type(told[0]), dict)
        self.assertIs(type(told[1]), int)
        awaited = best_by_trial(bench, picture)
        self.assertEqual(told, awaited)
        self.assertEqual(list(told[0]), colours_in(picture))
        self.assertEqual(pressed(bench, size_of(picture), states_by(bench, picture, told[0])), picture)
        return told

    def test_the_fewest_blocks_ahead_of_the_fewest_cells(self):
        picture = [["yellow", "blue"]]
        told = self.assert_best(PLAIN, picture)
        self.assertEqual(told, ({"blue": (0, 1), "yellow": (0,)}, 1))
        self.assertEqual(len(fewest_blocks(states_by(PLAIN, picture, least_choices(PLAIN, picture)))[0]), 2)

    def test_the_fewest_cells_ahead_of_the_order(self):
        told = self.assert_best(red_bench(3), [["red", "red"]])
        self.assertEqual(told, ({"red": (0,)}, 1))
        told = self.assert_best(red_bench(1), [["red", "white"]])
        self.assertEqual(told, ({"red": (0,), "white": ()}, 1))
        told = self.assert_best(PLAIN, [["yellow"]])
        self.assertEqual(told, ({"yellow": (0,)}, 1))

    def test_the_first_in_the_order_of_lists(self):
        bench = ("a", [("cover", "one", "b"), ("glaze", "two", (("a", "b"),)), ("glaze", "three", (("a", "c"),))])
        for picture in ([["b"]], [["b", "c"]], [["a", "b"], ["c", "b"]], [["a", "b", "c"]]):
            self.assert_best(bench, picture)
        alike = ("a", [("glaze", "one", (("a", "b"),)), ("glaze", "two", (("a", "b"), ("b", "c"))), ("cover", "x", "a")])
        for picture in ([["b"]], [["b", "c"]], [["a", "b"], ["c", "b"]], [["a", "b", "c"]]):
            self.assert_best(alike, picture)

    def test_each_cell_counts_as_often_as_it_is_printed(self):
        draw = Draw(31)
        bench = ("w", [("cover", "one", "b"), ("glaze", "two", (("w", "b"), ("b", "c"))), ("glaze", "three", (("b", "c"),))])
        for time in range(60):
            size = draw.size(4)
            self.assert_best(bench, [[draw.one_of("wbc") for column in range(size[0])] for row in range(size[1])])

    def test_drawn_pictures_against_a_trial_of_all_choices(self):
        draw = Draw(28)
        tried = 0
        for time in range(250):
            bench = draw.bench(5, "abc")
            size = draw.size(4)
            picture = pressed(bench, size, [draw.cells(size) for ink in bench[1]])
            if many_by_trial(bench, picture) <= 300:
                self.assert_best(bench, picture)
                tried += 1
        self.assertGreater(tried, 100)

    def test_one_stack_for_each_colour(self):
        told = self.assert_best(EIGHT_COVERS, [["white", "aa"]])
        self.assertEqual(told[0], {"aa": (0,), "white": ()})

    def test_the_benches_of_the_samples(self):
        for bench in BENCHES:
            picture = pressed(bench, (2, 2), [5] * len(bench[1]))
            if many_by_trial(bench, picture) <= 300:
                self.assert_best(bench, picture)

    def test_the_greatest_size(self):
        picture = [["yellow" if (row + column) % 3 else "blue" for column in range(24)] for row in range(24)]
        self.assert_best(PLAIN, picture)

    def test_the_dict_told_is_the_asker_s_own(self):
        picture = [["grey", "white"], ["black", "green"]]
        told = best_choices(GLAZED, picture)
        kept = dict(told[0])
        told[0].clear()
        self.assertEqual(best_choices(GLAZED, picture)[0], kept)


class Refused(unittest.TestCase):
    def assert_too_many(self, bench, picture):
        self.assertGreater(many_by_trial(bench, picture), 300)
        with self.assertRaises(TooMany) as taken:
            best_choices(bench, picture)
        self.assertIsInstance(taken.exception, BlockError)

    def assert_no_stack(self, bench, picture, colour, column, row):
        with self.assertRaises(NoStack) as taken:
            best_choices(bench, picture)
        told = taken.exception
        self.assertEqual((told.colour, told.column, told.row), (colour, column, row))

    def test_a_colour_without_a_stack(self):
        self.assert_no_stack(PLAIN, [["red"]], "red", 0, 0)
        self.assert_no_stack(PLAIN, [["white", "zz"], ["aa", "zz"]], "zz", 1, 0)

    def test_no_stack_ahead_of_too_many(self):
        picture = [["hh", "gg"], ["ff", "aa"]]
        self.assert_too_many(EIGHT_COVERS, picture)
        self.assert_no_stack(EIGHT_COVERS, picture + [["hh", "red"]], "red", 1, 2)

    def bench_of_300(self):
        """Glazes and covers by which the colours' stacks, multiplied, are just 300: found among drawn ones."""
        draw = Draw(29)
        while True:
            bench = draw.bench(6, "abcd")
            shown = [colour for colour in "abcd" if stacks_of(bench, colour)]
            for many in range(1, len(shown) + 1):
                for colours in itertools.combinations(shown, many):
                    if many_by_trial(bench, [list(colours)]) == 300:
                        return bench, [list(colours)]

    def test_just_300_are_told(self):
        bench, picture = self.bench_of_300()
        self.assertEqual(many_by_trial(bench, picture), 300)
        self.assertEqual(best_choices(bench, picture), best_by_trial(bench, picture))

    def test_drawn_benches_around_300(self):
        draw = Draw(30)
        below, above = 0, 0
        for time in range(300):
            bench = draw.bench(8, "abcd")
            picture = pressed(bench, (3, 2), [draw.cells((3, 2)) for ink in bench[1]])
            if many_by_trial(bench, picture) > 300:
                self.assert_too_many(bench, picture)
                above += 1
            else:
                best_choices(bench, picture)
                below += 1
        self.assertGreater(min(below, above), 20)

    def test_just_301(self):
        """43 stacks of one colour and 7 of another one, on six inks."""
        self.assertEqual(43 * 7, 301)
        draw = Draw(32)
        for time in range(200000):
            bench = draw.bench(6, "abc")
            many = [len(stacks_of(bench, colour)) for colour in "abc"]
            if 43 in many and 7 in many:
                picture = [["abc"[many.index(43)], "abc"[many.index(7)]]]
                self.assertEqual(many_by_trial(bench, picture), 301)
                self.assert_too_many(bench, picture)
                return
        self.fail("no such bench was drawn")


if __name__ == "__main__":
    unittest.main()
