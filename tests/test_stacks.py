"""[11] The stacks of a colour, [12] choices and the states by them, and [0.2] and [0.4] as far as they touch them."""

import copy
import itertools
import unittest

from lostblock.boards import all_of
from lostblock.errors import BlockError, NoStack
from lostblock.inks import colour_of
from lostblock.pictures import size_of
from lostblock.press import pressed
from lostblock.stacks import least_choices, stacks_of, states_by
from samples import BENCHES, Draw, EIGHT_COVERS, EIGHT_GLAZES, GLAZED, PLAIN, SINGLE


def stacks_by_trial(bench, colour):
    told = []
    for many in range(len(bench[1]) + 1):
        for stack in itertools.combinations(range(len(bench[1])), many):
            if colour_of(bench, stack) == colour:
                told.append(stack)
    return told


def colours_shown(bench):
    numbers = range(len(bench[1]))
    stacks = [stack for many in range(len(bench[1]) + 1) for stack in itertools.combinations(numbers, many)]
    return sorted({colour_of(bench, stack) for stack in stacks})


def drawn_picture(draw, bench, longest):
    size = draw.size(longest)
    colours = colours_shown(bench)
    return [[draw.one_of(colours) for column in range(size[0])] for row in range(size[1])]


class StacksOf(unittest.TestCase):
    def test_by_hand(self):
        self.assertEqual(stacks_of(PLAIN, "white"), [()])
        self.assertEqual(stacks_of(PLAIN, "yellow"), [(0,)])
        self.assertEqual(stacks_of(PLAIN, "blue"), [(1,), (0, 1)])
        self.assertEqual(stacks_of(GLAZED, "white"), [(), (3,), (1, 3)])
        self.assertEqual(stacks_of(GLAZED, "green"), [(0, 1), (0, 1, 3)])
        awaited = [(1,), (2, 3), (0, 2, 3), (1, 2, 3), (0, 1, 2, 3)]
        self.assertEqual(stacks_of(GLAZED, "grey"), awaited)

    def test_the_order_of_tuples_is_by_numbers(self):
        bench = ("white", [("cover", name, "red") for name in "abcd"])
        awaited = [(0,), (1,), (2,), (3,), (0, 1), (0, 2), (0, 3), (1, 2), (1, 3), (2, 3), (0, 1, 2), (0, 1, 3),
                   (0, 2, 3), (1, 2, 3), (0, 1, 2, 3)]
        self.assertEqual(stacks_of(bench, "red"), awaited)

    def test_a_colour_that_no_stack_shows(self):
        for bench in BENCHES:
            self.assertEqual(stacks_of(bench, "nowhere"), [])
        self.assertEqual(stacks_of(SINGLE, "red"), [])
        self.assertEqual(stacks_of(SINGLE, "white"), [(), (0,)])

    def test_the_paper_may_be_shown_by_no_ink_alone(self):
        self.assertEqual(stacks_of(EIGHT_COVERS, "white"), [()])
        self.assertEqual(stacks_of(EIGHT_GLAZES, "a"), [(), tuple(range(8))])

    def test_eight_inks(self):
        self.assertEqual(len(stacks_of(EIGHT_COVERS, "hh")), 128)
        self.assertEqual(stacks_of(EIGHT_COVERS, "hh")[0], (7,))
        self.assertEqual(stacks_of(EIGHT_COVERS, "aa"), [(0,)])

    def test_held_against_a_trial_of_all_rising_tuples(self):
        draw = Draw(11)
        for bench in BENCHES + [draw.bench(8) for time in range(60)]:
            many = 0
            for colour in colours_shown(bench) + ["nowhere"]:
                told = stacks_of(bench, colour)
                self.assertEqual(told, stacks_by_trial(bench, colour))
                self.assertIs(type(told), list)
                self.assertTrue(all(type(stack) is tuple for stack in told))
                many = many + len(told)
            self.assertEqual(many, 2 ** len(bench[1]))

    def test_lists_are_new_and_the_bench_stays(self):
        bench = copy.deepcopy(GLAZED)
        told = stacks_of(bench, "grey")
        told.clear()
        stacks_of(bench, "nowhere").append(())
        self.assertEqual(stacks_of(bench, "grey"), stacks_by_trial(GLAZED, "grey"))
        self.assertEqual(stacks_of(bench, "nowhere"), [])
        self.assertEqual(bench, GLAZED)


class LeastChoices(unittest.TestCase):
    def assert_no_stack(self, bench, picture, colour, column, row):
        with self.assertRaises(NoStack) as taken:
            least_choices(bench, picture)
        told = taken.exception
        self.assertEqual((told.colour, told.column, told.row), (colour, column, row))
        self.assertIsInstance(told, BlockError)

    def test_by_hand(self):
        picture = [["yellow", "white"], ["grey", "green"], ["white", "black"]]
        told = least_choices(GLAZED, picture)
        self.assertIs(type(told), dict)
        awaited = [("black", (2,)), ("green", (0, 1)), ("grey", (1,)), ("white", ()), ("yellow", (0,))]
        self.assertEqual(list(told.items()), awaited)

    def test_keys_come_in_the_order_of_words(self):
        bench = ("b", [("cover", "one", "abc"), ("cover", "two", "ab"), ("cover", "three", "abcd")])
        told = least_choices(bench, [["b", "abcd", "abc", "ab"]])
        self.assertEqual(list(told), ["ab", "abc", "abcd", "b"])

    def test_colours_that_the_picture_does_not_have_are_no_keys(self):
        self.assertEqual(least_choices(PLAIN, [["blue"]]), {"blue": (1,)})

    def test_each_colour_s_first_stack(self):
        draw = Draw(12)
        for bench in BENCHES + [draw.bench(8) for time in range(60)]:
            picture = drawn_picture(draw, bench, 24)
            told = least_choices(bench, picture)
            self.assertEqual(list(told), sorted({colour for colours in picture for colour in colours}))
            for colour, stack in told.items():
                self.assertEqual(stack, stacks_by_trial(bench, colour)[0])

    def test_a_colour_without_a_stack(self):
        self.assert_no_stack(PLAIN, [["red"]], "red", 0, 0)
        self.assert_no_stack(PLAIN, [["white", "red"], ["white", "white"]], "red", 1, 0)
        self.assert_no_stack(PLAIN, [["white", "white"], ["red", "blue"]], "red", 0, 1)

    def test_the_first_such_cell_in_order_counts(self):
        self.assert_no_stack(PLAIN, [["white", "red"], ["green", "red"]], "red", 1, 0)
        self.assert_no_stack(PLAIN, [["white", "yellow"], ["green", "red"]], "green", 0, 1)
        self.assert_no_stack(PLAIN, [["white", "zz"], ["aa", "aa"]], "zz", 1, 0)
        self.assert_no_stack(PLAIN, [["white", "white", "zz"], ["aa", "zz", "white"]], "zz", 2, 0)
        self.assert_no_stack(PLAIN, [["white"] * 24] * 23 + [["white"] * 23 + ["red"]], "red", 23, 23)

    def test_new_at_each_time_and_nothing_handed_in_is_changed(self):
        bench = copy.deepcopy(GLAZED)
        picture = [["grey", "white"], ["black", "grey"]]
        told = least_choices(bench, picture)
        kept = dict(told)
        told.clear()
        self.assertEqual(least_choices(bench, picture), kept)
        self.assertEqual(bench, GLAZED)
        self.assertEqual(picture, [["grey", "white"], ["black", "grey"]])


class StatesBy(unittest.TestCase):
    def assert_states(self, bench, picture, choices):
        size = size_of(picture)
        states = states_by(bench, picture, choices)
        self.assertIs(type(states), list)
        self.assertEqual(len(states), len(bench[1]))
        for number, state in enumerate(states):
            awaited = 0
            for row, colours in enumerate(picture):
                for column, colour in enumerate(colours):
                    if number in choices[colour]:
                        awaited += 2 ** (row * size[0] + column)
            self.assertEqual(state, awaited)
            self.assertIs(type(state), int)
        self.assertEqual(pressed(bench, size, states), picture)

    def test_by_hand(self):
        picture = [["yellow", "blue", "white"], ["blue", "blue", "yellow"]]
        self.assertEqual(states_by(PLAIN, picture, {"blue": (1,), "white": (), "yellow": (0,)}), [33, 26])
        self.assertEqual(states_by(PLAIN, picture, {"blue": (0, 1), "white": (), "yellow": (0,)}), [59, 26])

    def test_least_choices_make_the_picture_again(self):
        draw = Draw(13)
        for bench in BENCHES + [draw.bench(8) for time in range(60)]:
            picture = drawn_picture(draw, bench, 24)
            self.assert_states(bench, picture, least_choices(bench, picture))

    def test_any_choices_make_the_picture_again(self):
        draw = Draw(14)
        for bench in BENCHES + [draw.bench(8) for time in range(60)]:
            picture = drawn_picture(draw, bench, 7)
            colours = sorted({colour for colours in picture for colour in colours})
            choices = {colour: draw.one_of(stacks_by_trial(bench, colour)) for colour in colours[::-1]}
            self.assert_states(bench, picture, choices)

    def test_choices_for_more_colours_than_the_picture_has(self):
        choices = {"white": (), "yellow": (0,), "blue": (0, 1)}
        self.assertEqual(states_by(PLAIN, [["yellow", "white"]], choices), [1, 0])

    def test_pictures_of_the_greatest_size(self):
        picture = [["blue"] * 24 for row in range(24)]
        self.assertEqual(states_by(PLAIN, picture, {"blue": (1,)}), [0, all_of((24, 24))])

    def test_nothing_handed_in_is_changed(self):
        picture = [["grey", "white"], ["black", "grey"]]
        choices = {"white": (1, 3), "grey": (2, 3), "black": (2,)}
        told = states_by(GLAZED, picture, choices)
        kept = list(told)
        told.clear()
        self.assertEqual(picture, [["grey", "white"], ["black", "grey"]])
        self.assertEqual(list(choices.items()), [("white", (1, 3)), ("grey", (2, 3)), ("black", (2,))])
        self.assertEqual(states_by(GLAZED, picture, choices), kept)


if __name__ == "__main__":
    unittest.main()
