"""[19] Plans held against a picture, and [0.2] and [0.4] as far as they touch them."""

import copy
import unittest

from lostblock.boards import set_of
from lostblock.errors import BlockError, NoDeed
from lostblock.looks import unlike_at
from lostblock.plans import plan_of
from lostblock.press import pressed
from lostblock.stacks import least_choices, states_by
from samples import BENCHES, Draw, GLAZED, PLAIN, SINGLE

PICTURE = [["yellow", "blue", "white"], ["blue", "blue", "yellow"]]
SIZE = (3, 2)


def plan_for(bench, picture):
    size = (len(picture[0]), len(picture))
    return plan_of(size, states_by(bench, picture, least_choices(bench, picture)))


class UnlikeAt(unittest.TestCase):
    def assert_told(self, bench, picture, plan, awaited):
        kept = copy.deepcopy((bench, picture, plan))
        told = unlike_at(bench, picture, plan)
        self.assertEqual(told, awaited)
        self.assertEqual((bench, picture, plan), kept)
        if awaited is None:
            self.assertIsNone(told)
        else:
            self.assertIs(type(told), tuple)

    def test_the_plan_of_the_least_choices_prints_the_picture(self):
        self.assert_told(PLAIN, PICTURE, plan_for(PLAIN, PICTURE), None)

    def test_no_deeds_show_the_paper(self):
        self.assert_told(PLAIN, PICTURE, [], (0, 0, "white", "yellow"))
        self.assert_told(PLAIN, [["white", "white"]], [], None)
        self.assert_told(PLAIN, [["white", "white"], ["white", "blue"]], [], (1, 1, "white", "blue"))

    def test_inks_that_are_not_printed_have_sets_without_cells(self):
        yellow = [["yellow"] * 3] * 2
        self.assert_told(PLAIN, yellow, [("print", 0, 0)], None)
        blue = [["blue"] * 3] * 2
        self.assert_told(PLAIN, blue, [("print", 4, 1)], None)
        self.assert_told(PLAIN, blue, [("print", 4, 0)], (0, 0, "yellow", "blue"))
        self.assert_told(GLAZED, [["grey"] * 3] * 2, [("print", 0, 2), ("print", 1, 3)], None)
        self.assert_told(GLAZED, [["grey"] * 3] * 2, [("print", 0, 1)], None)

    def test_the_first_unlike_cell_in_order(self):
        plan = plan_for(PLAIN, PICTURE)
        for row in range(2):
            for column in range(3):
                picture = copy.deepcopy(PICTURE)
                shown = picture[row][column]
                picture[row][column] = "red"
                self.assert_told(PLAIN, picture, plan, (column, row, shown, "red"))
                picture[1][2] = "zz"
                self.assert_told(PLAIN, picture, plan, (column, row, shown, "red" if (column, row) != (2, 1) else "zz"))

    def test_by_row_then_by_column(self):
        picture = [["white", "white", "blue"], ["blue", "white", "white"]]
        self.assert_told(PLAIN, picture, [], (2, 0, "white", "blue"))

    def test_a_missing_cut_ahead_of_the_last_cover(self):
        plan = plan_for(PLAIN, PICTURE)
        first = [deed[0] for deed in plan].index("print")
        places = [place for place, deed in enumerate(plan) if deed[0] == "cut" and place > first]
        self.assertNotEqual(places, [])
        for place in places:
            told = unlike_at(PLAIN, PICTURE, plan[:place] + plan[place + 1:])
            self.assertIsNotNone(told)
            self.assertNotEqual(told[2], told[3])
            self.assertEqual(PICTURE[told[1]][told[0]], told[3])

    def test_a_print_later_than_the_size_s_cut(self):
        plan = [("cut", 0, ("row", 0, 0, 1)), ("print", 0, 0), ("cut", 0, ("column", 2, 0, 1)), ("print", 0, 1)]
        self.assert_told(PLAIN, [["white", "white", "yellow"], ["blue", "blue", "yellow"]], plan, None)
        self.assert_told(PLAIN, [["white", "white", "yellow"], ["blue", "blue", "blue"]], plan, (2, 1, "yellow", "blue"))

    def test_drawn_benches_and_pictures(self):
        draw = Draw(24)
        for bench in BENCHES + [draw.bench(8) for time in range(60)]:
            size = draw.size(10)
            states = [draw.cells(size) for ink in bench[1]]
            picture = pressed(bench, size, states)
            self.assert_told(bench, picture, plan_of(size, states), None)
            self.assert_told(bench, picture, plan_for(bench, picture), None)
            others = [draw.cells(size) for ink in bench[1]]
            other = pressed(bench, size, others)
            unlike = [(column, row, other[row][column], picture[row][column]) for row in range(size[1])
                      for column in range(size[0]) if other[row][column] != picture[row][column]]
            self.assert_told(bench, picture, plan_of(size, others), unlike[0] if unlike else None)

    def test_the_greatest_size(self):
        size = (24, 24)
        picture = [["yellow"] * 24 for row in range(24)]
        self.assert_told(PLAIN, picture, [("print", 0, 0)], None)
        picture[23][23] = "blue"
        self.assert_told(PLAIN, picture, [("print", 0, 0)], (23, 23, "yellow", "blue"))
        last = set_of(size, [(23, 23)])
        self.assert_told(PLAIN, picture, plan_of(size, [2 ** 576 - 1, last]), None)


class Refused(unittest.TestCase):
    def assert_refused(self, bench, picture, plan, at):
        kept = copy.deepcopy((bench, picture, plan))
        with self.assertRaises(NoDeed) as taken:
            unlike_at(bench, picture, plan)
        self.assertEqual(taken.exception.at, at, plan)
        self.assertIsInstance(taken.exception, BlockError)
        self.assertEqual((bench, picture, plan), kept)

    def test_an_ink_that_is_no_number_of_the_bench(self):
        self.assert_refused(PLAIN, PICTURE, [("print", 0, 2)], 0)
        self.assert_refused(PLAIN, PICTURE, [("print", 0, 0), ("print", 0, 1), ("print", 0, 2)], 2)
        self.assert_refused(PLAIN, PICTURE, [("print", 0, 10 ** 30)], 0)
        self.assert_refused(SINGLE, [["white"]], [("print", 0, 1)], 0)
        self.assertIsNone(unlike_at(SINGLE, [["white"]], [("print", 0, 0)]))
        for bench in BENCHES:
            many = len(bench[1])
            plan = [("print", 0, number) for number in range(many + 1)]
            self.assert_refused(bench, PICTURE, plan, many)

    def test_what_replaying_refuses(self):
        self.assert_refused(PLAIN, PICTURE, [None], 0)
        self.assert_refused(PLAIN, PICTURE, [("print", 0, 1), ("print", 0, 1)], 1)
        self.assert_refused(PLAIN, PICTURE, [("print", 0, 1), ("print", 0, 0)], 1)
        self.assert_refused(PLAIN, PICTURE, [("print", 0, 0), ("cut", 0, ("row", 2, 0, 0))], 1)
        self.assert_refused(PLAIN, PICTURE, [("print", 0, 0), ("cut", 0, ("column", 3, 0, 0))], 1)
        self.assert_refused(PLAIN, PICTURE, [("print", 0, True)], 0)

    def test_whichever_comes_first(self):
        self.assert_refused(PLAIN, PICTURE, [("print", 0, 2), None], 0)
        self.assert_refused(PLAIN, PICTURE, [None, ("print", 0, 2)], 0)
        self.assert_refused(PLAIN, PICTURE, [("print", 0, 0), ("print", 0, 5), ("print", 0, 1)], 1)
        self.assert_refused(PLAIN, PICTURE, [("print", 0, 1), ("print", 0, 0), ("print", 0, 5)], 1)
        self.assert_refused(PLAIN, PICTURE, [("print", 0, 1), ("cut", 0, ("row", 5, 0, 0)), ("print", 0, 5)], 1)
        self.assert_refused(PLAIN, PICTURE, [("print", 0, 1), ("print", 0, 5), ("cut", 0, ("row", 5, 0, 0))], 1)


if __name__ == "__main__":
    unittest.main()
