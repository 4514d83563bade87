"""[10] States as they are pressed, and [0.2] as far as it touches them."""

import copy
import unittest

from lostblock.boards import all_of, set_of
from lostblock.inks import laid
from lostblock.press import pressed
from samples import BENCHES, Draw, EIGHT_COVERS, GLAZED, PLAIN

SIZES = [(1, 1), (1, 24), (24, 1), (24, 24), (3, 2), (2, 3), (5, 7), (23, 24), (24, 11)]


def pressed_by_hand(bench, size, states):
    picture = []
    for row in range(size[1]):
        picture.append([])
        for column in range(size[0]):
            colour = bench[0]
            for ink, state in zip(bench[1], states):
                if state // 2 ** (row * size[0] + column) % 2:
                    colour = laid(ink, colour)
            picture[row].append(colour)
    return picture


class Pressed(unittest.TestCase):
    def test_covers_by_hand(self):
        size = (3, 2)
        states = [set_of(size, [(0, 0), (1, 0), (2, 1)]), set_of(size, [(1, 0), (0, 1)])]
        self.assertEqual(pressed(PLAIN, size, states), [["yellow", "blue", "white"], ["blue", "white", "yellow"]])

    def test_glazes_by_hand(self):
        size = (2, 3)
        states = [
            set_of(size, [(0, 0), (1, 0), (0, 1)]), set_of(size, [(1, 0), (1, 1), (0, 1)]),
            set_of(size, [(0, 1), (0, 2)]), set_of(size, [(1, 0), (1, 1), (0, 2)]),
        ]
        awaited = [["yellow", "green"], ["black", "white"], ["grey", "white"]]
        self.assertEqual(pressed(GLAZED, size, states), awaited)

    def test_states_without_cells_show_the_paper(self):
        for bench in BENCHES:
            for size in SIZES:
                awaited = [[bench[0]] * size[0]] * size[1]
                self.assertEqual(pressed(bench, size, [0] * len(bench[1])), awaited)

    def test_states_with_all_cells(self):
        for bench in BENCHES:
            for size in SIZES:
                states = [all_of(size)] * len(bench[1])
                self.assertEqual(pressed(bench, size, states), pressed_by_hand(bench, size, states))
        self.assertEqual(pressed(EIGHT_COVERS, (2, 1), [3] * 8), [["hh", "hh"]])

    def test_one_ink_alone(self):
        for number in range(8):
            states = [2 if other == number else 0 for other in range(8)]
            self.assertEqual(pressed(EIGHT_COVERS, (1, 2), states), [["white"], ["abcdefgh"[number] * 2]])

    def test_drawn_states_of_all_benches_and_sizes(self):
        draw = Draw(10)
        for bench in BENCHES + [draw.bench(8) for time in range(40)]:
            for size in SIZES + [draw.size(24)]:
                states = [draw.cells(size) for ink in bench[1]]
                self.assertEqual(pressed(bench, size, states), pressed_by_hand(bench, size, states))

    def test_lists_of_texts_new_at_each_time(self):
        states = [0] * 4
        told = pressed(GLAZED, (2, 2), states)
        self.assertIs(type(told), list)
        self.assertIs(type(told[0]), list)
        self.assertIs(type(told[0][0]), str)
        told[0][0] = "late"
        self.assertEqual(told[1], ["white", "white"])
        told[1].append("late")
        told.append([])
        self.assertEqual(pressed(GLAZED, (2, 2), states), [["white", "white"], ["white", "white"]])

    def test_nothing_handed_in_is_changed(self):
        bench = copy.deepcopy(GLAZED)
        states = [1, 2, 7, 15]
        pressed(bench, (2, 2), states)
        self.assertEqual(bench, GLAZED)
        self.assertEqual(states, [1, 2, 7, 15])


if __name__ == "__main__":
    unittest.main()
