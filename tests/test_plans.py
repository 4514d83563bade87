"""[16] Plans replayed, [17] plans of states, and [0.2] and [0.4] as far as they touch them."""

import copy
import unittest

from lostblock.boards import all_of, set_of
from lostblock.chains import fewest_blocks
from lostblock.errors import BlockError, NoDeed
from lostblock.plans import plan_of, replayed
from lostblock.strokes import cells_cut, fewest_strokes, lies_on
from samples import Draw, OTHER_THINGS

SIZE = (3, 2)
NO_DEEDS = OTHER_THINGS + (
    ("cut",), ("cut", 0), ("cut", 0, ("row", 0, 0, 0), 0), ("print",), ("print", 0), ("print", 0, 0, 0),
    ("prints", 0, 0), ("Print", 0, 0), ("", 0, 0), (None, 0, 0), (0, 0, 0), (["cut"], 0, ("row", 0, 0, 0)),
    ("cuts", 0, ("row", 0, 0, 0)), ["cut", 0, ("row", 0, 0, 0)], ["print", 0, 0], "print 0 0", "cut 0 row 0 0 0",
    ("print", True, 0), ("print", False, 0), ("print", 0, True), ("print", 0, False), ("print", -1, 0),
    ("print", 0, -1), ("print", None, 0), ("print", 0, None), ("print", "0", 0), ("print", 0, "0"), ("print", 0.0, 0),
    ("print", 0, 0.0), ("print", (0,), 0), ("print", [], 0), ("print", 0, []), ("print", 0, ("row", 0, 0, 0)),
    ("cut", True, ("row", 0, 0, 0)), ("cut", False, ("row", 0, 0, 0)), ("cut", -1, ("row", 0, 0, 0)),
    ("cut", None, ("row", 0, 0, 0)), ("cut", "0", ("row", 0, 0, 0)), ("cut", {}, ("row", 0, 0, 0)), ("cut", 0, 0),
    ("cut", 0, None), ("cut", 0, ()), ("cut", 0, ["row", 0, 0, 0]), ("cut", 0, ("row", 0, 0)), ("cut", 0, "row 0 0 0"),
    ("cut", 0, ("line", 0, 0, 0)), ("cut", 0, ("row", 2, 0, 0)), ("cut", 0, ("row", 0, 0, 3)),
    ("cut", 0, ("row", 0, 2, 1)), ("cut", 0, ("row", -1, 0, 0)), ("cut", 0, ("row", 0, -1, 0)),
    ("cut", 0, ("column", 3, 0, 0)), ("cut", 0, ("column", 0, 0, 2)), ("cut", 0, ("column", 0, 1, 0)),
    ("cut", 0, ("row", True, 0, 0)), ("cut", 0, ("row", 0, False, 0)), ("cut", 0, ("column", 0, 0, True)),
    ("cut", "row", 0, 0, 0), (("cut", 0, ("row", 0, 0, 0)),),
)


class Replayed(unittest.TestCase):
    def assert_told(self, size, plan, awaited):
        kept = copy.deepcopy(plan)
        told = replayed(size, plan)
        self.assertEqual(told, awaited)
        self.assertEqual(plan, kept)
        self.assertIs(type(told), list)
        for one in told:
            self.assertIs(type(one), tuple)
            self.assertIs(type(one[1]), int)

    def test_no_deeds(self):
        self.assert_told(SIZE, [], [])

    def test_cuts_alone(self):
        self.assert_told(SIZE, [("cut", 0, ("row", 0, 0, 2))], [])

    def test_each_block_is_all_wood_at_first(self):
        for size in ((1, 1), (3, 2), (24, 24)):
            for block in (0, 1, 7, 999, 10 ** 30):
                self.assert_told(size, [("print", block, 0)], [(0, all_of(size))])

    def test_blocks_in_no_order(self):
        plan = [("print", 9, 0), ("cut", 2, ("row", 0, 0, 2)), ("print", 2, 1), ("print", 10 ** 30, 2), ("print", 0, 3)]
        self.assert_told(SIZE, plan, [(0, 63), (1, 56), (2, 63), (3, 63)])

    def test_cuts_along_rows_and_columns(self):
        plan = [
            ("cut", 0, ("row", 0, 1, 2)), ("print", 0, 0), ("cut", 0, ("column", 0, 0, 1)), ("print", 0, 1),
            ("cut", 0, ("column", 2, 1, 1)), ("print", 0, 2), ("cut", 0, ("row", 1, 0, 2)), ("print", 0, 3),
        ]
        self.assert_told(SIZE, plan, [(0, 57), (1, 48), (2, 16), (3, 0)])

    def test_cells_that_are_cut_twice(self):
        plan = [("cut", 0, ("row", 0, 0, 2)), ("cut", 0, ("row", 0, 0, 2)), ("cut", 0, ("column", 1, 0, 1)),
                ("cut", 0, ("row", 0, 1, 1)), ("print", 0, 0)]
        self.assert_told(SIZE, plan, [(0, 40)])

    def test_each_print_tells_its_own_block(self):
        plan = [("cut", 1, ("row", 0, 0, 2)), ("cut", 0, ("row", 1, 0, 2)), ("print", 1, 0), ("print", 0, 2),
                ("cut", 0, ("row", 0, 0, 0)), ("print", 1, 3), ("print", 0, 5)]
        self.assert_told(SIZE, plan, [(0, 56), (2, 7), (3, 56), (5, 6)])

    def test_great_numbers_of_inks(self):
        self.assert_told(SIZE, [("print", 0, 8), ("print", 0, 1000), ("print", 0, 10 ** 30)],
                         [(8, 63), (1000, 63), (10 ** 30, 63)])

    def test_drawn_plans_cut_by_cut(self):
        draw = Draw(20)
        for time in range(60):
            size = draw.size(24)
            plan, awaited, woods, ink = [], [], {}, -1
            for deed in range(30):
                block = draw.below(4)
                woods.setdefault(block, set(range(size[0] * size[1])))
                if draw.below(4) == 0:
                    ink += 1 + draw.below(3)
                    plan.append(("print", block, ink))
                    awaited.append((ink, sum(2 ** place for place in woods[block])))
                elif draw.below(2):
                    row, first = draw.below(size[1]), draw.below(size[0])
                    last = first + draw.below(size[0] - first)
                    plan.append(("cut", block, ("row", row, first, last)))
                    woods[block] -= {row * size[0] + column for column in range(first, last + 1)}
                else:
                    column, first = draw.below(size[0]), draw.below(size[1])
                    last = first + draw.below(size[1] - first)
                    plan.append(("cut", block, ("column", column, first, last)))
                    woods[block] -= {row * size[0] + column for row in range(first, last + 1)}
            self.assert_told(size, plan, awaited)

    def test_lists_are_new_at_each_time(self):
        plan = [("print", 0, 0)]
        replayed(SIZE, plan).append(3)
        self.assertEqual(replayed(SIZE, plan), [(0, 63)])
        replayed(SIZE, []).append(3)
        self.assertEqual(replayed(SIZE, []), [])


class Refused(unittest.TestCase):
    def assert_refused(self, plan, at, size=SIZE):
        with self.assertRaises(NoDeed) as taken:
            replayed(size, plan)
        self.assertEqual(taken.exception.at, at, repr(plan))
        self.assertIs(type(taken.exception.at), int)
        self.assertIsInstance(taken.exception, BlockError)

    def test_things_that_are_no_deed(self):
        cut, prints = ("cut", 0, ("row", 0, 0, 0)), ("print", 0, 0)
        for thing in NO_DEEDS:
            self.assert_refused([thing], 0)
            self.assert_refused([cut, prints, thing], 2)
            self.assert_refused([cut, thing, prints], 1)
            self.assert_refused([thing, thing], 0)

    def test_a_stroke_that_does_not_lie_on_the_size(self):
        self.assertEqual(replayed((2, 3), [("cut", 0, ("row", 2, 0, 1))]), [])
        self.assert_refused([("cut", 0, ("row", 2, 0, 1))], 0, (3, 2))
        self.assertEqual(replayed((3, 2), [("cut", 0, ("column", 2, 0, 1))]), [])
        self.assert_refused([("cut", 0, ("column", 2, 0, 1))], 0, (2, 3))

    def test_an_ink_that_is_not_above_the_one_ahead(self):
        self.assert_refused([("print", 0, 0), ("print", 0, 0)], 1)
        self.assert_refused([("print", 0, 3), ("print", 1, 3)], 1)
        self.assert_refused([("print", 0, 3), ("print", 1, 2)], 1)
        self.assert_refused([("print", 0, 1), ("print", 0, 5), ("cut", 0, ("row", 0, 0, 0)), ("print", 0, 4)], 3)
        self.assert_refused([("print", 0, 0), ("print", 1, 1), ("print", 2, 0)], 2)

    def test_the_first_that_is_refused_counts(self):
        self.assert_refused([("print", 0, 0), ("print", 0, 0), None], 1)
        self.assert_refused([("print", 0, 0), None, ("print", 0, 0)], 1)
        self.assert_refused([("cut", 0, ("row", 9, 0, 0)), ("print", 0, 0), ("print", 0, 0)], 0)
        self.assert_refused([("print", 0, 5), ("cut", 0, ("row", 9, 0, 0)), ("print", 0, 5), None], 1)

    def test_the_plan_handed_in_stays(self):
        plan = [("print", 0, 0), ("print", 0, 0), None]
        self.assert_refused(plan, 1)
        self.assertEqual(plan, [("print", 0, 0), ("print", 0, 0), None])


class PlanOf(unittest.TestCase):
    def assert_plan(self, size, states):
        kept = list(states)
        plan = plan_of(size, states)
        self.assertEqual(states, kept)
        self.assertIs(type(plan), list)
        self.assertEqual(replayed(size, plan), list(enumerate(states)))
        chains = fewest_blocks(states)[0]
        block_of = {}
        for deed in plan:
            if deed[0] == "print":
                block_of[deed[2]] = deed[1]
        self.assertEqual(len(set(block_of.values())), len(chains))
        self.assertEqual({deed[1] for deed in plan}, set(range(len(chains))))
        firsts = [min(number for number in block_of if block_of[number] == block) for block in range(len(chains))]
        self.assertEqual(firsts, sorted(firsts))
        self.assert_fewest(size, states, plan)

    def assert_fewest(self, size, states, plan):
        """Between two prints just the strokes for the next state are cut, of its block, and no more than needed."""
        woods = {}
        strokes = []
        for deed in plan:
            if deed[0] == "cut":
                strokes.append(deed)
                continue
            block, state = deed[1], states[deed[2]]
            wood = woods.get(block, all_of(size))
            self.assertEqual({cut[1] for cut in strokes} - {block}, set())
            self.assertTrue(all(lies_on(size, cut[2]) for cut in strokes))
            self.assertTrue(all(cells_cut(size, cut[2]) & state == 0 for cut in strokes))
            self.assertEqual(len(strokes), len(fewest_strokes(size, wood & ~state, state)[0]))
            woods[block] = state
            strokes = []
        self.assertEqual(strokes, [])

    def test_no_states(self):
        self.assertEqual(plan_of(SIZE, []), [])

    def test_by_hand(self):
        self.assertEqual(plan_of((1, 1), [1]), [("print", 0, 0)])
        self.assertEqual(plan_of((1, 1), [1, 1]), [("print", 0, 0), ("print", 0, 1)])
        plan = plan_of((3, 1), [5, 4, 3])
        self.assertEqual([deed for deed in plan if deed[0] == "print"], [("print", 0, 0), ("print", 0, 1), ("print", 1, 2)])
        self.assert_plan((3, 1), [5, 4, 3])

    def test_states_without_cells_are_printed_too(self):
        self.assert_plan((1, 1), [0])
        self.assert_plan(SIZE, [0, 0, 0])
        self.assert_plan(SIZE, [0, 63, 0, 5])
        self.assertEqual([deed for deed in plan_of((1, 1), [0, 0]) if deed[0] == "print"], [("print", 0, 0), ("print", 0, 1)])

    def test_whole_boards_need_no_cut(self):
        self.assertEqual(plan_of((24, 24), [all_of((24, 24))] * 2), [("print", 0, 0), ("print", 0, 1)])

    def test_blocks_by_their_first_states(self):
        states = [set_of(SIZE, [cell]) for cell in ((0, 0), (1, 0), (2, 0), (0, 1))]
        prints = [deed for deed in plan_of(SIZE, states) if deed[0] == "print"]
        self.assertEqual(prints, [("print", number, number) for number in range(4)])

    def test_every_list_of_three_states_of_a_small_board(self):
        for one in range(8):
            for two in range(8):
                for three in range(8):
                    self.assert_plan((3, 1), [one, two, three])

    def test_drawn_states(self):
        draw = Draw(21)
        for time in range(80):
            size = draw.size(3)
            self.assert_plan(size, [draw.cells(size) for number in range(1 + draw.below(10))])
        for time in range(20):
            size = draw.size(24)
            self.assert_plan(size, [draw.cells(size) for number in range(8)])
        self.assert_plan((24, 24), [draw.cells((24, 24)) for number in range(8)])
        self.assert_plan((2, 2), [draw.cells((2, 2)) for number in range(60)])

    def test_states_that_lose_wood(self):
        draw = Draw(22)
        for time in range(20):
            size = draw.size(24)
            states = [all_of(size)]
            for number in range(7):
                states.append(states[-1] & (draw.cells(size) | draw.cells(size)))
            self.assert_plan(size, states)
            self.assertEqual({deed[1] for deed in plan_of(size, states)}, {0})

    def test_lists_are_new_at_each_time(self):
        kept = plan_of(SIZE, [5, 4, 3])
        told = plan_of(SIZE, [5, 4, 3])
        self.assertEqual(told, kept)
        told.clear()
        self.assertEqual(plan_of(SIZE, [5, 4, 3]), kept)


if __name__ == "__main__":
    unittest.main()
