"""[1] to [3] Boards and sets, and [0.2] as far as it touches them."""

import unittest

from lostblock.boards import all_of, cells_of, read, set_of, shown, within
from lostblock.errors import BlockError, NoSet

SIZES = [(wide, high) for wide in range(1, 25) for high in range(1, 25)]
SMALL_SIZES = [size for size in SIZES if size[0] * size[1] <= 8]
LARGE_SIZES = [(24, 24), (24, 1), (1, 24), (23, 24), (24, 23), (7, 11), (11, 7), (8, 8), (5, 13)]


def cells_told_by_hand(size):
    return [(column, row) for row in range(size[1]) for column in range(size[0])]


def patterns(size):
    """Sets of a size: none, all, single corners, and some mixed ones."""
    many = size[0] * size[1]
    whole = 2 ** many - 1
    mixed = [sum(2 ** bit for bit in range(many) if bit * step % 7 < 3) for step in range(1, 7)]
    corners = [2 ** 0, 2 ** (size[0] - 1), 2 ** (many - size[0]), 2 ** (many - 1)]
    return [0, whole] + corners + [whole - corner for corner in corners] + mixed


def sets_with_sizes():
    for size in SMALL_SIZES:
        for some in range(2 ** (size[0] * size[1])):
            yield size, some
    for size in LARGE_SIZES:
        for some in patterns(size):
            yield size, some


def cells_by_bits(size, some):
    return [cell for cell in cells_told_by_hand(size) if some // 2 ** (cell[1] * size[0] + cell[0]) % 2]


class Kinds(unittest.TestCase):
    def assert_whole(self, value):
        self.assertIs(type(value), int)

    def assert_cells(self, cells):
        self.assertIs(type(cells), list)
        for cell in cells:
            self.assertIs(type(cell), tuple)
            self.assertEqual(len(cell), 2)
            self.assert_whole(cell[0])
            self.assert_whole(cell[1])


class AllOf(Kinds):
    def test_every_size(self):
        for size in SIZES:
            whole = all_of(size)
            self.assert_whole(whole)
            self.assertEqual(whole, 2 ** (size[0] * size[1]) - 1, size)

    def test_one_cell(self):
        self.assertEqual(all_of((1, 1)), 1)


class SetOf(Kinds):
    def test_the_bit_of_each_cell(self):
        for size in SIZES:
            for number, cell in enumerate(cells_told_by_hand(size)):
                self.assertEqual(set_of(size, [cell]), 2 ** number, (size, cell))

    def test_unlike_sides_by_hand(self):
        self.assertEqual(set_of((3, 2), [(2, 0)]), 4)
        self.assertEqual(set_of((3, 2), [(0, 1)]), 8)
        self.assertEqual(set_of((2, 3), [(0, 1)]), 4)
        self.assertEqual(set_of((2, 3), [(1, 2), (0, 0)]), 33)

    def test_no_cells(self):
        for size in SIZES:
            none = set_of(size, [])
            self.assert_whole(none)
            self.assertEqual(none, 0)

    def test_all_cells_in_any_order(self):
        for size in SIZES:
            cells = cells_told_by_hand(size)
            self.assertEqual(set_of(size, cells), all_of(size))
            self.assertEqual(set_of(size, cells[::-1]), all_of(size))

    def test_a_cell_told_twice_is_in_it_once(self):
        self.assertEqual(set_of((1, 1), [(0, 0), (0, 0)]), 1)
        self.assertEqual(set_of((3, 2), [(1, 1), (0, 0), (1, 1)]), 17)
        self.assertEqual(set_of((3, 2), [(1, 1)] * 3), 16)
        for size in LARGE_SIZES:
            self.assertEqual(set_of(size, cells_told_by_hand(size) * 2), all_of(size))

    def test_it_is_a_whole_number(self):
        for size in SIZES:
            self.assert_whole(set_of(size, [(0, 0)]))
            self.assert_whole(set_of(size, cells_told_by_hand(size)))

    def test_the_list_handed_in_stays(self):
        cells = [(1, 1), (0, 0), (1, 1)]
        set_of((2, 2), cells)
        self.assertEqual(cells, [(1, 1), (0, 0), (1, 1)])


class CellsOf(Kinds):
    def test_by_row_then_by_column(self):
        self.assertEqual(cells_of((3, 2), 63), [(0, 0), (1, 0), (2, 0), (0, 1), (1, 1), (2, 1)])
        self.assertEqual(cells_of((2, 3), 63), [(0, 0), (1, 0), (0, 1), (1, 1), (0, 2), (1, 2)])
        self.assertEqual(cells_of((3, 2), 8 + 4), [(2, 0), (0, 1)])

    def test_none_and_all_of_every_size(self):
        for size in SIZES:
            self.assertEqual(cells_of(size, 0), [])
            self.assertEqual(cells_of(size, all_of(size)), cells_told_by_hand(size))

    def test_every_set_of_small_sizes_and_some_of_large_ones(self):
        for size, some in sets_with_sizes():
            cells = cells_of(size, some)
            self.assert_cells(cells)
            self.assertEqual(cells, cells_by_bits(size, some), (size, some))

    def test_back_to_the_set(self):
        for size, some in sets_with_sizes():
            self.assertEqual(set_of(size, cells_of(size, some)), some)

    def test_the_list_told_is_the_asker_s_own(self):
        for some in (0, 5, 15):
            told = cells_of((2, 2), some)
            kept = list(told)
            told.append((9, 9))
            told.reverse()
            self.assertEqual(cells_of((2, 2), some), kept)
            told.clear()
            self.assertEqual(cells_of((2, 2), some), kept)
            self.assertIsNot(cells_of((2, 2), some), cells_of((2, 2), some))


class Within(Kinds):
    def test_every_pair_of_sets_of_a_small_board(self):
        size = (3, 2)
        for one in range(64):
            for other in range(64):
                awaited = all(cell in cells_by_bits(size, other) for cell in cells_by_bits(size, one))
                self.assertIs(within(one, other), awaited, (one, other))

    def test_none_and_all_of_every_size(self):
        for size in SIZES:
            whole = all_of(size)
            self.assertIs(within(0, 0), True)
            self.assertIs(within(0, whole), True)
            self.assertIs(within(whole, whole), True)
            self.assertIs(within(whole, 0), False)
            self.assertIs(within(whole, whole - 2 ** (size[0] * size[1] - 1)), False)

    def test_the_last_cell_counts(self):
        whole = all_of((24, 24))
        last = set_of((24, 24), [(23, 23)])
        self.assertIs(within(whole - last, whole), True)
        self.assertIs(within(whole, whole - last), False)
        self.assertIs(within(last, whole - last), False)
        self.assertIs(within(last, last), True)


class Shown(Kinds):
    def test_by_hand(self):
        self.assertEqual(shown((1, 1), 0), ".")
        self.assertEqual(shown((1, 1), 1), "#")
        self.assertEqual(shown((3, 2), 4 + 8), "..#\n#..")
        self.assertEqual(shown((2, 3), 4 + 2), ".#\n#.\n..")

    def test_row_by_row(self):
        for size, some in sets_with_sizes():
            cells = cells_by_bits(size, some)
            rows = []
            for row in range(size[1]):
                rows.append("".join("#" if (column, row) in cells else "." for column in range(size[0])))
            self.assertEqual(shown(size, some), "\n".join(rows), (size, some))

    def test_none_and_all_of_every_size(self):
        for size in SIZES:
            for some, sign in ((0, "."), (all_of(size), "#")):
                self.assertEqual(shown(size, some), "\n".join([sign * size[0]] * size[1]))


class Read(Kinds):
    def assert_refused(self, text, row):
        with self.assertRaises(NoSet) as taken:
            read(text)
        self.assertEqual(taken.exception.row, row, repr(text))
        self.assert_whole(taken.exception.row)
        self.assertIsInstance(taken.exception, BlockError)

    def assert_read(self, text, size, some):
        told = read(text)
        self.assertEqual(told, (size, some))
        self.assertIs(type(told), tuple)
        self.assertIs(type(told[0]), tuple)
        for whole in (told[0][0], told[0][1], told[1]):
            self.assert_whole(whole)

    def test_by_hand(self):
        self.assert_read(".", (1, 1), 0)
        self.assert_read("#", (1, 1), 1)
        self.assert_read("..#\n#..", (3, 2), 12)
        self.assert_read(".#\n#.\n..", (2, 3), 6)

    def test_what_is_shown_is_read_again(self):
        for size, some in sets_with_sizes():
            self.assert_read(shown(size, some), size, some)

    def test_none_and_all_of_every_size(self):
        for size in SIZES:
            self.assert_read(shown(size, 0), size, 0)
            self.assert_read(shown(size, all_of(size)), size, all_of(size))

    def test_the_text_without_signs(self):
        self.assert_refused("", 0)

    def test_a_row_without_signs(self):
        self.assert_refused("\n#.", 0)
        self.assert_refused("#.\n\n.#", 1)
        self.assert_refused("\n", 0)
        self.assert_refused("\n\n", 0)

    def test_a_line_end_behind_the_text(self):
        self.assert_refused("#\n", 1)
        self.assert_refused("#.\n.#\n", 2)
        self.assert_refused("#.\n.#\n\n", 2)
        self.assert_refused("\n".join(["#"] * 23) + "\n", 23)
        self.assert_refused("\n".join(["#"] * 24) + "\n", 24)

    def test_another_sign(self):
        for number in range(128):
            sign = chr(number)
            if sign in "#.\n":
                continue
            self.assert_refused(sign, 0)
            self.assert_refused(sign + "#", 0)
            self.assert_refused("#.\n#" + sign + "\n..", 1)
            self.assert_refused("#.\n..\n" + sign + "#", 2)

    def test_other_line_ends_are_other_signs(self):
        for end in ("\r", "\r\n", "\v", "\f", "\x1c", "\x1d", "\x1e"):
            self.assert_refused("#." + end + ".#", 0)
            self.assert_refused("#.\n.#" + end, 1)

    def test_twenty_four_signs_are_read_and_twenty_five_are_not(self):
        self.assert_read("#" * 24, (24, 1), 2 ** 24 - 1)
        self.assert_refused("#" * 25, 0)
        self.assert_refused("." * 26, 0)
        self.assert_refused("#" * 24 + "\n" + "#" * 25, 1)
        self.assert_refused("\n".join(["#" * 25] * 2), 0)

    def test_twenty_four_rows_are_read_and_row_twenty_four_is_not(self):
        self.assert_read("\n".join(["#"] * 24), (1, 24), 2 ** 24 - 1)
        self.assert_refused("\n".join(["#"] * 25), 24)
        self.assert_refused("\n".join(["."] * 40), 24)
        self.assert_refused("\n".join(["#" * 24] * 25), 24)
        self.assert_refused("\n".join(["#"] * 24 + ["x"]), 24)

    def test_not_as_long_as_row_0(self):
        self.assert_refused("##\n#", 1)
        self.assert_refused("#\n##", 1)
        self.assert_refused("##\n##\n###\n##", 2)
        self.assert_refused("##\n##\n##\n.", 3)

    def test_the_first_row_that_can_t_stand_counts(self):
        self.assert_refused("x\n##\n", 0)
        self.assert_refused("##\n#\n#x\n\n", 1)
        self.assert_refused("##\n#x\n#\n", 1)
        self.assert_refused("##\n\n#x\n#", 1)
        self.assert_refused("\n".join(["##"] * 3 + ["#"] + ["##"] * 30), 3)
        self.assert_refused("\n".join(["##"] * 23 + ["#x"] + ["##"]), 23)
        self.assert_refused("#" * 25 + "\nx\n", 0)

    def test_a_size_told_is_not_changed_by_a_later_reading(self):
        first = read("##\n..")
        read("#")
        self.assertEqual(first, ((2, 2), 3))
        self.assertEqual(read("##\n.."), first)


if __name__ == "__main__":
    unittest.main()
