"""[14] Strokes, [15] the fewest of them, and [0.2] and [0.4] as far as they touch them."""

import itertools
import unittest

from lostblock.boards import all_of, cells_of, set_of
from lostblock.errors import BlockError, Kept
from lostblock.strokes import cells_cut, fewest_strokes, lies_on
from samples import Draw, OTHER_THINGS


def all_strokes(size):
    for row in range(size[1]):
        for first in range(size[0]):
            for last in range(first, size[0]):
                yield ("row", row, first, last)
    for column in range(size[0]):
        for first in range(size[1]):
            for last in range(first, size[1]):
                yield ("column", column, first, last)


def cut_by_hand(size, stroke):
    kind, line, first, last = stroke
    if kind == "row":
        return sum(2 ** (line * size[0] + column) for column in range(first, last + 1))
    return sum(2 ** (row * size[0] + line) for row in range(first, last + 1))


def strokes_that_keep(size, keep):
    """What each stroke cuts that cuts none of keep."""
    sets = [cut_by_hand(size, stroke) for stroke in all_strokes(size)]
    return sorted({some for some in sets if some & keep == 0})


def can_be_cut(sets, away, many):
    if away == 0:
        return True
    if many == 0:
        return False
    first = away & -away
    return any(can_be_cut(sets, away & ~some, many - 1) for some in sets if some & first)


def fewest_by_trial(size, away, keep):
    sets = strokes_that_keep(size, keep)
    many = 0
    while not can_be_cut(sets, away, many):
        many += 1
    return many


class LiesOn(unittest.TestCase):
    def test_every_stroke_of_small_sizes(self):
        for size in ((1, 1), (3, 2), (2, 3), (4, 4)):
            awaited = set(all_strokes(size))
            for kind in ("row", "column"):
                for line, first, last in itertools.product(range(-2, 6), repeat=3):
                    stroke = (kind, line, first, last)
                    self.assertIs(lies_on(size, stroke), stroke in awaited, (size, stroke))

    def test_the_edges_of_a_large_size(self):
        size = (24, 20)
        for stroke in (("row", 0, 0, 23), ("row", 19, 0, 23), ("row", 19, 23, 23), ("column", 0, 0, 19),
                       ("column", 23, 0, 19), ("column", 23, 19, 19)):
            self.assertIs(lies_on(size, stroke), True, stroke)
        for stroke in (("row", 20, 0, 0), ("row", 0, 0, 24), ("row", 0, 24, 24), ("column", 24, 0, 0),
                       ("column", 0, 0, 20), ("column", 0, 20, 20), ("row", 0, -1, 3), ("column", 0, -1, 3),
                       ("row", -1, 0, 0), ("column", -1, 0, 0), ("row", 0, 3, 2), ("column", 0, 3, 2),
                       ("row", 10 ** 30, 0, 0), ("row", 0, 0, 10 ** 30), ("row", 0, -10 ** 30, 0)):
            self.assertIs(lies_on(size, stroke), False, stroke)

    def test_things_of_other_kinds(self):
        for thing in OTHER_THINGS + (BlockError, BlockError(), 10 ** 40, float("nan"), [("row", 0, 0, 0)], {1: 2}):
            self.assertIs(lies_on((4, 4), thing), False, repr(thing))

    def test_tuples_of_other_lengths(self):
        stroke = ("row", 0, 0, 0)
        for many in (0, 1, 2, 3):
            self.assertIs(lies_on((4, 4), stroke[:many]), False)
        self.assertIs(lies_on((4, 4), stroke + (0,)), False)
        self.assertIs(lies_on((4, 4), (stroke,)), False)
        self.assertIs(lies_on((4, 4), stroke * 2), False)

    def test_lists_and_texts(self):
        self.assertIs(lies_on((4, 4), ["row", 0, 0, 0]), False)
        self.assertIs(lies_on((4, 4), "row 0 0 0"), False)
        self.assertIs(lies_on((4, 4), "row0"), False)

    def test_another_first_part(self):
        for first in ("", "Row", "rows", "row ", "columns", "line", 0, None, True, (), [], ["row"], ("row",), b"row", {}):
            self.assertIs(lies_on((4, 4), (first, 0, 0, 0)), False, repr(first))

    def test_parts_that_are_no_whole_numbers(self):
        for kind in ("row", "column"):
            for part in (True, False, None, "0", "", 0.0, 1.0, (), [], (0,), {}, b"0", object()):
                self.assertIs(lies_on((4, 4), (kind, part, 0, 1)), False, repr(part))
                self.assertIs(lies_on((4, 4), (kind, 0, part, 1)), False, repr(part))
                self.assertIs(lies_on((4, 4), (kind, 0, 0, part)), False, repr(part))
            self.assertIs(lies_on((4, 4), (kind, False, False, True)), False)
            self.assertIs(lies_on((4, 4), (kind, 0, 0, 1)), True)


class CellsCut(unittest.TestCase):
    def test_by_hand(self):
        self.assertEqual(cells_cut((3, 2), ("row", 0, 0, 2)), 7)
        self.assertEqual(cells_cut((3, 2), ("row", 1, 1, 2)), 48)
        self.assertEqual(cells_cut((3, 2), ("column", 2, 0, 1)), 36)
        self.assertEqual(cells_cut((3, 2), ("column", 1, 1, 1)), 16)
        self.assertEqual(cells_cut((1, 1), ("row", 0, 0, 0)), 1)
        self.assertEqual(cells_cut((1, 1), ("column", 0, 0, 0)), 1)

    def test_every_stroke_of_some_sizes(self):
        for size in ((1, 1), (3, 2), (2, 3), (5, 4), (1, 24), (24, 1)):
            for stroke in all_strokes(size):
                told = cells_cut(size, stroke)
                self.assertIs(type(told), int)
                self.assertEqual(told, cut_by_hand(size, stroke))

    def test_a_whole_side_of_the_greatest_size(self):
        size = (24, 24)
        for line in (0, 11, 23):
            self.assertEqual(cells_of(size, cells_cut(size, ("row", line, 0, 23))), [(k, line) for k in range(24)])
            self.assertEqual(cells_of(size, cells_cut(size, ("column", line, 0, 23))), [(line, k) for k in range(24)])


class FewestStrokes(unittest.TestCase):
    def assert_told(self, size, away, keep, awaited=None):
        told = fewest_strokes(size, away, keep)
        self.assertIs(type(told), tuple)
        self.assertEqual(len(told), 2)
        strokes, apart = told
        self.assertIs(type(strokes), list)
        self.assertIs(type(apart), list)
        self.assertEqual(strokes, sorted(strokes))
        cut = 0
        for stroke in strokes:
            self.assertIs(lies_on(size, stroke), True)
            cut |= cut_by_hand(size, stroke)
        self.assertEqual(cut & away, away)
        self.assertEqual(cut & keep, 0)
        self.assert_apart(size, away, keep, apart)
        self.assertEqual(len(apart), len(strokes))
        if awaited is not None:
            self.assertEqual(len(strokes), awaited, (size, away, keep))

    def assert_apart(self, size, away, keep, apart):
        self.assertEqual(apart, sorted(set(apart), key=lambda cell: (cell[1], cell[0])))
        for column, row in apart:
            self.assertTrue(away // 2 ** (row * size[0] + column) % 2)
        for one, other in itertools.combinations(apart, 2):
            if one[1] == other[1]:
                between = cut_by_hand(size, ("row", one[1], one[0], other[0]))
                self.assertNotEqual(between & keep, 0, (one, other))
            if one[0] == other[0]:
                between = cut_by_hand(size, ("column", one[0], one[1], other[1]))
                self.assertNotEqual(between & keep, 0, (one, other))

    def test_nothing_to_cut(self):
        for size in ((1, 1), (3, 2), (24, 24)):
            for keep in (0, 1, all_of(size)):
                self.assertEqual(fewest_strokes(size, 0, keep), ([], []))

    def test_all_of_the_board(self):
        for size in ((1, 1), (3, 2), (2, 3), (1, 24), (24, 1), (24, 24), (24, 23)):
            self.assert_told(size, all_of(size), 0, min(size))

    def test_one_cell(self):
        for size in ((1, 1), (3, 2), (24, 24)):
            for cell in cells_of(size, all_of(size)):
                away = set_of(size, [cell])
                self.assert_told(size, away, 0, 1)
                self.assert_told(size, away, all_of(size) - away, 1)
                self.assertEqual(fewest_strokes(size, away, all_of(size) - away)[1], [cell])

    def test_cells_in_neither_set_may_be_cut(self):
        self.assert_told((5, 1), 17, 0, 1)
        self.assert_told((1, 5), 17, 0, 1)
        self.assert_told((5, 1), 17, 4, 2)
        self.assert_told((3, 3), set_of((3, 3), [(0, 0), (2, 0), (0, 2), (2, 2)]), 0, 2)
        self.assert_told((3, 3), set_of((3, 3), [(0, 0), (2, 0), (0, 2), (2, 2)]), set_of((3, 3), [(1, 0)]), 2)

    def test_a_board_of_alternate_cells(self):
        size = (24, 24)
        dark = set_of(size, [cell for cell in cells_of(size, all_of(size)) if (cell[0] + cell[1]) % 2])
        self.assert_told(size, dark, all_of(size) - dark, 288)
        self.assert_told(size, dark, 0, 24)

    def test_a_frame_and_a_cross(self):
        size = (24, 24)
        cells = cells_of(size, all_of(size))
        frame = set_of(size, [cell for cell in cells if set(cell) & {0, 23}])
        self.assert_told(size, frame, all_of(size) - frame, 4)
        cross = set_of(size, [cell for cell in cells if 11 in cell])
        self.assert_told(size, cross, all_of(size) - cross, 2)

    def test_every_cutting_of_a_small_board(self):
        for size in ((2, 2), (3, 2), (2, 3)):
            for parts in itertools.product(range(3), repeat=size[0] * size[1]):
                away = sum(2 ** place for place, part in enumerate(parts) if part == 1)
                keep = sum(2 ** place for place, part in enumerate(parts) if part == 2)
                self.assert_told(size, away, keep, fewest_by_trial(size, away, keep))

    def test_drawn_cuttings_against_a_trial_of_few_strokes(self):
        draw = Draw(18)
        for time in range(120):
            size = draw.size(4)
            keep = draw.cells(size)
            away = draw.cells(size) & ~keep
            self.assert_told(size, away, keep, fewest_by_trial(size, away, keep))

    def test_drawn_cuttings_of_all_sizes(self):
        draw = Draw(19)
        for size in [(24, 24), (24, 1), (1, 24), (23, 24)] + [draw.size(24) for time in range(60)]:
            keep = draw.cells(size)
            self.assert_told(size, all_of(size) - keep, keep)
            self.assert_told(size, draw.cells(size) & ~keep, keep)
            few = keep & draw.cells(size) & draw.cells(size) & draw.cells(size)
            self.assert_told(size, all_of(size) - few, few)

    def test_lists_are_new_at_each_time(self):
        kept = fewest_strokes((3, 3), 257, 16)
        told = fewest_strokes((3, 3), 257, 16)
        self.assertEqual(told, kept)
        told[0].clear()
        told[1].append((9, 9))
        self.assertEqual(fewest_strokes((3, 3), 257, 16), kept)


class Refused(unittest.TestCase):
    def assert_kept(self, size, away, keep, cell):
        with self.assertRaises(Kept) as taken:
            fewest_strokes(size, away, keep)
        self.assertEqual((taken.exception.column, taken.exception.row), cell)
        self.assertIsInstance(taken.exception, BlockError)

    def test_each_cell_that_is_in_both(self):
        for size in ((1, 1), (3, 2), (2, 3)):
            for cell in cells_of(size, all_of(size)):
                both = set_of(size, [cell])
                self.assert_kept(size, both, both, cell)
                self.assert_kept(size, all_of(size), both, cell)
                self.assert_kept(size, both, all_of(size), cell)

    def test_the_first_cell_in_order_counts(self):
        size = (3, 3)
        both = set_of(size, [(0, 2), (2, 0), (1, 1)])
        self.assert_kept(size, both, both, (2, 0))
        self.assert_kept(size, both | 1, both, (2, 0))
        self.assert_kept(size, both - 4, both | 1, (1, 1))
        self.assert_kept((24, 24), 2 ** 575 + 2 ** 24, 2 ** 575 + 2 ** 23, (23, 23))


if __name__ == "__main__":
    unittest.main()
