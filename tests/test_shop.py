"""[22] to [24] The shop, and [0.2] and [0.4] as far as they touch it."""

import copy
import itertools
import unittest

from lostblock.boards import all_of, cells_of, set_of
from lostblock.errors import BlockError, NoName, NoStroke, Order, Twice, Wrong
from lostblock.plans import plan_of
from lostblock.press import pressed
from lostblock.rests import sources
from lostblock.shop import Shop
from samples import BENCHES, Draw, EIGHT_COVERS, GLAZED, OTHER_THINGS, PLAIN

SIZE = (3, 2)
NO_WORDS = ("", " ", "A", "Red", "nineletts", "a1", "a b", "a\n", "\n", "0", "a ", " a", "-")
NAMES = [ink[1] for ink in GLAZED[1]]


def plain_shop():
    """States: the sun prints the upper row, the sea its first cell."""
    return Shop(PLAIN, SIZE, [7, 1])


def told_of(shop):
    """All that a shop tells."""
    return (
        shop.blocks(), [shop.wood(name) for name in shop.blocks()], shop.sheets(),
        [shop.shows(name) for name in shop.sheets()], [shop.lacks(name) for name in shop.sheets()],
        [shop.can([name]) for name in shop.sheets()], shop.can(shop.sheets()),
    )


class ShopTest(unittest.TestCase):
    def assert_refused(self, refusal, shop, deed, *things):
        """The deed is refused with just this refusal, and changes nothing."""
        before = told_of(shop)
        with self.assertRaises(BlockError) as taken:
            getattr(shop, deed)(*things)
        self.assertIs(type(taken.exception), refusal, (deed, things))
        self.assertEqual(told_of(shop), before)
        return taken.exception


class Names(ShopTest):
    def test_a_new_shop_has_nothing(self):
        shop = plain_shop()
        self.assertEqual(shop.blocks(), [])
        self.assertEqual(shop.sheets(), [])

    def test_a_new_block_is_all_wood(self):
        for size in ((1, 1), (3, 2), (24, 24)):
            shop = Shop(PLAIN, size, [0, 0])
            self.assertIsNone(shop.block("oak"))
            self.assertEqual(shop.wood("oak"), all_of(size))

    def test_a_new_sheet_has_no_prints(self):
        for bench in BENCHES:
            shop = Shop(bench, SIZE, [63] * len(bench[1]))
            self.assertIsNone(shop.sheet("one"))
            self.assertEqual(shop.shows("one"), [[bench[0]] * 3] * 2)
            self.assertEqual(shop.lacks("one"), list(range(len(bench[1]))))

    def test_no_word(self):
        shop = plain_shop()
        shop.block("a")
        shop.sheet("a")
        for name in NO_WORDS:
            self.assert_refused(NoName, shop, "block", name)
            self.assert_refused(NoName, shop, "sheet", name)

    def test_words_of_one_to_eight_letters(self):
        shop = plain_shop()
        for name in ("a", "z", "abcdefgh", "block", "sheet"):
            shop.block(name)
            shop.sheet(name)
        self.assertEqual(shop.blocks(), ["a", "abcdefgh", "block", "sheet", "z"])
        self.assertEqual(shop.sheets(), ["a", "abcdefgh", "block", "sheet", "z"])

    def test_twice(self):
        shop = plain_shop()
        shop.block("oak")
        shop.cut("oak", ("row", 1, 0, 2))
        self.assert_refused(Twice, shop, "block", "oak")
        shop.sheet("one")
        shop.block("elm")
        shop.print_on("oak", "sun", "one")
        self.assert_refused(Twice, shop, "sheet", "one")
        self.assertEqual(shop.wood("oak"), 7)
        self.assertEqual(shop.lacks("one"), [1])

    def test_a_block_and_a_sheet_may_share_a_name(self):
        for deeds in (("block", "sheet"), ("sheet", "block")):
            shop = plain_shop()
            for deed in deeds:
                getattr(shop, deed)("oak")
            self.assertEqual((shop.blocks(), shop.sheets()), (["oak"], ["oak"]))
            self.assert_refused(Twice, shop, "block", "oak")
            self.assert_refused(Twice, shop, "sheet", "oak")

    def test_two_shops_apart(self):
        one, other = plain_shop(), plain_shop()
        one.block("oak")
        one.sheet("one")
        one.cut("oak", ("row", 1, 0, 2))
        self.assertEqual((other.blocks(), other.sheets()), ([], []))
        other.block("oak")
        other.sheet("one")
        self.assertEqual(other.wood("oak"), 63)
        one.print_on("oak", "sun", "one")
        self.assertEqual(other.lacks("one"), [0, 1])
        self.assertEqual(other.wood("oak"), 63)


class Cuts(ShopTest):
    def test_rows_and_columns(self):
        shop = plain_shop()
        shop.block("oak")
        shop.block("elm")
        self.assertIsNone(shop.cut("oak", ("row", 0, 1, 2)))
        self.assertEqual(shop.wood("oak"), 57)
        shop.cut("oak", ("column", 0, 0, 1))
        self.assertEqual(shop.wood("oak"), 48)
        self.assertEqual(shop.wood("elm"), 63)

    def test_lost_cells_stay_lost(self):
        shop = plain_shop()
        shop.block("oak")
        for stroke in (("row", 0, 0, 2), ("row", 0, 0, 2), ("row", 0, 1, 1), ("column", 1, 0, 1), ("row", 0, 0, 2)):
            shop.cut("oak", stroke)
        self.assertEqual(shop.wood("oak"), 40)

    def test_drawn_cuts(self):
        draw = Draw(33)
        for time in range(30):
            size = draw.size(24)
            shop = Shop(PLAIN, size, [0, 0])
            shop.block("oak")
            wood = set(cells_of(size, all_of(size)))
            for cut in range(12):
                row, column = draw.below(size[1]), draw.below(size[0])
                right, low = column + draw.below(size[0] - column), row + draw.below(size[1] - row)
                if draw.below(2):
                    shop.cut("oak", ("row", row, column, right))
                    wood -= {(place, row) for place in range(column, right + 1)}
                else:
                    shop.cut("oak", ("column", column, row, low))
                    wood -= {(column, place) for place in range(row, low + 1)}
                self.assertEqual(set(cells_of(size, shop.wood("oak"))), wood)

    def test_no_stroke(self):
        shop = plain_shop()
        shop.block("oak")
        for thing in OTHER_THINGS + (
            ("row", 2, 0, 0), ("row", 0, 0, 3), ("row", 0, 2, 1), ("row", -1, 0, 0), ("row", 0, -1, 0),
            ("column", 3, 0, 0), ("column", 0, 0, 2), ("column", 0, 1, 0), ("line", 0, 0, 0), ("row", True, 0, 0),
            ("row", 0, False, 0), ("row", 0, 0, True), ("row", "0", 0, 0), ("row", 0, 0, None), ("row", 0, 0, 0, 0),
        ):
            self.assert_refused(NoStroke, shop, "cut", "oak", thing)
        self.assertEqual(shop.wood("oak"), 63)

    def test_no_name_ahead_of_no_stroke(self):
        shop = plain_shop()
        shop.block("oak")
        shop.sheet("one")
        for name in NO_WORDS + ("elm", "one"):
            self.assert_refused(NoName, shop, "cut", name, ("row", 0, 0, 0))
            self.assert_refused(NoName, shop, "cut", name, ("row", 9, 0, 0))
            self.assert_refused(NoName, shop, "cut", name, None)


class Prints(ShopTest):
    def shop_with_all(self):
        shop = plain_shop()
        for name in ("oak", "elm"):
            shop.block(name)
        for name in ("one", "two"):
            shop.sheet(name)
        return shop

    def test_a_sheet_printed_to_its_end(self):
        shop = self.shop_with_all()
        shop.cut("oak", ("row", 1, 0, 2))
        self.assertIsNone(shop.print_on("oak", "sun", "one"))
        self.assertEqual(shop.shows("one"), [["yellow"] * 3, ["white"] * 3])
        self.assertEqual(shop.lacks("one"), [1])
        shop.cut("oak", ("row", 0, 1, 2))
        shop.print_on("oak", "sea", "one")
        self.assertEqual(shop.shows("one"), [["blue", "yellow", "yellow"], ["white"] * 3])
        self.assertEqual(shop.lacks("one"), [])
        self.assertEqual(shop.shows("two"), [["white"] * 3] * 2)

    def test_one_block_on_several_sheets(self):
        shop = self.shop_with_all()
        shop.cut("oak", ("row", 1, 0, 2))
        shop.print_on("oak", "sun", "one")
        shop.print_on("oak", "sun", "two")
        self.assertEqual(shop.shows("two"), shop.shows("one"))
        self.assertEqual(shop.wood("oak"), 7)

    def test_a_print_stays_when_the_block_is_cut_on(self):
        shop = self.shop_with_all()
        shop.cut("oak", ("row", 1, 0, 2))
        shop.print_on("oak", "sun", "one")
        shop.cut("oak", ("row", 0, 0, 2))
        self.assertEqual(shop.wood("oak"), 0)
        self.assertEqual(shop.shows("one"), [["yellow"] * 3, ["white"] * 3])

    def test_a_state_without_cells(self):
        shop = Shop(PLAIN, SIZE, [0, 63])
        shop.block("oak")
        shop.sheet("one")
        self.assertEqual(self.assert_refused(Wrong, shop, "print_on", "oak", "sun", "one").row, 0)
        shop.print_on("oak", "sea", "one")
        self.assertEqual(shop.lacks("one"), [0])
        shop.sheet("two")
        shop.cut("oak", ("row", 0, 0, 2))
        shop.cut("oak", ("row", 1, 0, 2))
        shop.print_on("oak", "sun", "two")
        self.assertEqual(shop.lacks("two"), [1])
        self.assertEqual(shop.shows("two"), [["white"] * 3] * 2)

    def test_no_name(self):
        shop = self.shop_with_all()
        shop.cut("oak", ("row", 1, 0, 2))
        for name in NO_WORDS + ("ash", "one", "sun"):
            self.assert_refused(NoName, shop, "print_on", name, "sun", "one")
        for name in NO_WORDS + ("three", "oak", "sun"):
            self.assert_refused(NoName, shop, "print_on", "oak", "sun", name)
        for name in NO_WORDS + ("yellow", "white", "moon", "oak", "one", "su", "suns"):
            self.assert_refused(NoName, shop, "print_on", "oak", name, "one")

    def test_no_name_ahead_of_order_and_wrong(self):
        shop = self.shop_with_all()
        shop.cut("oak", ("row", 1, 0, 2))
        shop.print_on("oak", "sun", "one")
        self.assert_refused(NoName, shop, "print_on", "ash", "sun", "one")
        self.assert_refused(NoName, shop, "print_on", "oak", "moon", "one")
        self.assert_refused(NoName, shop, "print_on", "elm", "sun", "three")

    def test_order(self):
        shop = self.shop_with_all()
        shop.cut("oak", ("row", 1, 0, 2))
        shop.print_on("oak", "sun", "one")
        self.assert_refused(Order, shop, "print_on", "oak", "sun", "one")
        shop.cut("oak", ("row", 0, 1, 2))
        shop.print_on("oak", "sea", "one")
        self.assert_refused(Order, shop, "print_on", "oak", "sea", "one")
        self.assert_refused(Order, shop, "print_on", "oak", "sun", "one")
        shop.print_on("oak", "sea", "two")
        self.assert_refused(Order, shop, "print_on", "oak", "sun", "two")

    def test_order_ahead_of_wrong(self):
        shop = self.shop_with_all()
        shop.cut("oak", ("row", 1, 0, 2))
        shop.cut("oak", ("row", 0, 1, 2))
        shop.print_on("oak", "sea", "one")
        self.assert_refused(Order, shop, "print_on", "elm", "sea", "one")
        self.assert_refused(Order, shop, "print_on", "elm", "sun", "one")

    def test_order_by_numbers_of_inks(self):
        shop = Shop(GLAZED, (1, 1), [1] * 4)
        shop.block("oak")
        for one, other in itertools.product(range(4), repeat=2):
            shop.sheet("one")
            shop.print_on("oak", NAMES[one], "one")
            if one >= other:
                self.assert_refused(Order, shop, "print_on", "oak", NAMES[other], "one")
            else:
                shop.print_on("oak", NAMES[other], "one")
            shop.spoil("one")

    def test_wrong_with_the_first_unlike_cell(self):
        size = (3, 2)
        for state in range(64):
            shop = Shop(PLAIN, size, [state, 0])
            shop.block("oak")
            shop.sheet("one")
            shop.cut("oak", ("column", 1, 0, 1))
            unlike = [cell for cell in cells_of(size, 63) if cell in cells_of(size, state ^ 45)]
            if unlike:
                told = self.assert_refused(Wrong, shop, "print_on", "oak", "sun", "one")
                self.assertEqual((told.column, told.row), unlike[0])
            else:
                shop.print_on("oak", "sun", "one")

    def test_wrong_where_wood_is_lost_and_where_it_is_left(self):
        shop = self.shop_with_all()
        told = self.assert_refused(Wrong, shop, "print_on", "oak", "sun", "one")
        self.assertEqual((told.column, told.row), (0, 1))
        shop.cut("oak", ("column", 2, 0, 1))
        told = self.assert_refused(Wrong, shop, "print_on", "oak", "sun", "one")
        self.assertEqual((told.column, told.row), (2, 0))


class Spoiled(ShopTest):
    def test_the_name_is_free_again(self):
        shop = plain_shop()
        shop.block("oak")
        shop.cut("oak", ("row", 1, 0, 2))
        shop.sheet("one")
        shop.print_on("oak", "sun", "one")
        self.assertIsNone(shop.spoil("one"))
        self.assertEqual(shop.sheets(), [])
        for deed, things in (("spoil", ["one"]), ("shows", ["one"]), ("lacks", ["one"]), ("can", [["one"]]),
                             ("print_on", ["oak", "sun", "one"])):
            self.assert_refused(NoName, shop, deed, *things)
        shop.sheet("one")
        self.assertEqual(shop.lacks("one"), [0, 1])
        self.assertEqual(shop.shows("one"), [["white"] * 3] * 2)
        shop.print_on("oak", "sun", "one")

    def test_no_name(self):
        shop = plain_shop()
        shop.block("oak")
        shop.sheet("one")
        for name in NO_WORDS + ("oak", "two"):
            self.assert_refused(NoName, shop, "spoil", name)

    def test_other_sheets_and_blocks_stay(self):
        shop = plain_shop()
        for name in ("one", "two", "oak"):
            shop.sheet(name)
        shop.block("oak")
        shop.spoil("oak")
        self.assertEqual((shop.sheets(), shop.blocks()), (["one", "two"], ["oak"]))


class Told(ShopTest):
    def test_names_are_sorted_and_lists_new(self):
        shop = plain_shop()
        for name in ("elm", "ash", "oak", "as", "b"):
            shop.block(name)
        for name in ("two", "one", "three", "a"):
            shop.sheet(name)
        self.assertEqual(shop.blocks(), ["as", "ash", "b", "elm", "oak"])
        self.assertEqual(shop.sheets(), ["a", "one", "three", "two"])
        shop.blocks().clear()
        shop.sheets().append("zz")
        shop.lacks("one").clear()
        shop.shows("one")[0][0] = "late"
        shop.shows("one").clear()
        self.assertEqual(shop.blocks(), ["as", "ash", "b", "elm", "oak"])
        self.assertEqual(shop.sheets(), ["a", "one", "three", "two"])
        self.assertEqual(shop.lacks("one"), [0, 1])
        self.assertEqual(shop.shows("one"), [["white"] * 3] * 2)

    def test_lists_that_were_told_are_not_changed_by_later_deeds(self):
        shop = plain_shop()
        shop.block("oak")
        shop.sheet("one")
        told = (shop.blocks(), shop.sheets(), shop.lacks("one"), shop.shows("one"))
        kept = copy.deepcopy(told)
        shop.block("elm")
        shop.sheet("two")
        shop.cut("oak", ("row", 1, 0, 2))
        shop.print_on("oak", "sun", "one")
        self.assertEqual(told, kept)

    def test_lists_that_were_handed_in_are_not_changed_and_not_kept(self):
        bench = copy.deepcopy(GLAZED)
        states = [1, 1, 1, 1]
        shop = Shop(bench, (1, 1), states)
        shop.block("oak")
        shop.sheet("one")
        shop.print_on("oak", "sun", "one")
        self.assertEqual((bench, states), (GLAZED, [1, 1, 1, 1]))
        bench[1].reverse()
        bench[1].append(("cover", "late", "red"))
        states[1] = 0
        states.clear()
        shop.print_on("oak", "mist", "one")
        self.assertEqual(shop.shows("one"), [["green"]])
        self.assertEqual(shop.lacks("one"), [2, 3])
        self.assert_refused(NoName, shop, "print_on", "oak", "late", "one")
        names = ["one", "one"]
        shop.can(names)
        self.assertEqual(names, ["one", "one"])

    def test_no_name(self):
        shop = plain_shop()
        shop.block("oak")
        shop.sheet("one")
        for name in NO_WORDS + ("two",):
            self.assert_refused(NoName, shop, "wood", name)
            self.assert_refused(NoName, shop, "shows", name)
            self.assert_refused(NoName, shop, "lacks", name)
            self.assert_refused(NoName, shop, "can", [name])
        self.assert_refused(NoName, shop, "wood", "one")
        self.assert_refused(NoName, shop, "shows", "oak")
        self.assert_refused(NoName, shop, "lacks", "oak")
        self.assert_refused(NoName, shop, "can", ["oak"])

    def test_names_of_other_kinds_are_the_names_of_nothing(self):
        shop = plain_shop()
        shop.block("oak")
        shop.sheet("one")
        for thing in (None, 0, True, ["one"], {}, ("oak",), b"oak"):
            for deed in ("block", "sheet", "spoil", "wood", "shows", "lacks"):
                self.assert_refused(NoName, shop, deed, thing)
            self.assert_refused(NoName, shop, "can", [thing])
            self.assert_refused(NoName, shop, "cut", thing, ("row", 0, 0, 0))
            self.assert_refused(NoName, shop, "print_on", "oak", thing, "one")

    def test_every_set_of_prints(self):
        for bench in BENCHES:
            many = len(bench[1])
            shop = Shop(bench, (2, 1), [3] * many)
            shop.block("oak")
            for printed in itertools.product((0, 3), repeat=many):
                shop.sheet("one")
                for number in range(many):
                    if printed[number]:
                        shop.print_on("oak", bench[1][number][1], "one")
                self.assertEqual(shop.shows("one"), pressed(bench, (2, 1), printed))
                self.assertEqual(shop.lacks("one"), [number for number in range(many) if not printed[number]])
                shop.spoil("one")


class Can(ShopTest):
    def test_no_names(self):
        shop = plain_shop()
        self.assertEqual(shop.can([]), ("fresh", 0))
        shop.block("oak")
        shop.sheet("one")
        self.assertEqual(shop.can([]), ("fresh", 0))

    def test_from_blocks_as_they_stand(self):
        shop = plain_shop()
        shop.sheet("one")
        self.assertEqual(shop.can(["one"]), ("fresh", 1))
        shop.block("oak")
        self.assertEqual(shop.can(["one"]), ("fresh", 0))
        shop.cut("oak", ("row", 0, 1, 2))
        self.assertEqual(shop.can(["one"]), ("fresh", 1))
        shop.cut("oak", ("row", 0, 0, 0))
        self.assertEqual(shop.can(["one"]), ("fresh", 1))
        shop.block("elm")
        self.assertEqual(shop.can(["one"]), ("fresh", 0))

    def test_states_that_need_two_blocks(self):
        shop = Shop(PLAIN, SIZE, [7, 56])
        shop.sheet("one")
        self.assertEqual(shop.can(["one"]), ("fresh", 2))
        shop.block("oak")
        self.assertEqual(shop.can(["one"]), ("fresh", 1))
        shop.cut("oak", ("row", 1, 0, 2))
        shop.print_on("oak", "sun", "one")
        self.assertEqual(shop.can(["one"]), ("fresh", 1))
        shop.block("elm")
        self.assertEqual(shop.can(["one"]), ("fresh", 0))

    def test_a_finished_sheet_needs_nothing(self):
        shop = Shop(PLAIN, (1, 1), [1, 0])
        shop.block("oak")
        shop.sheet("one")
        shop.print_on("oak", "sun", "one")
        shop.cut("oak", ("row", 0, 0, 0))
        shop.print_on("oak", "sea", "one")
        self.assertEqual(shop.can(["one"]), ("fresh", 0))
        shop.sheet("two")
        self.assertEqual(shop.can(["two"]), ("fresh", 1))
        self.assertEqual(shop.can(["one", "two"]), ("fresh", 1))

    def test_never(self):
        shop = Shop(GLAZED, (1, 1), [1] * 4)
        shop.block("oak")
        for many in range(5):
            for inks in itertools.combinations(range(4), many):
                shop.sheet("one")
                for number in inks:
                    shop.print_on("oak", NAMES[number], "one")
                awaited = ("fresh", 0) if inks == tuple(range(many)) else ("never", "one")
                self.assertEqual(shop.can(["one"]), awaited, inks)
                shop.spoil("one")

    def test_the_first_in_the_list_that_can_never_be(self):
        shop = Shop(PLAIN, (1, 1), [1, 1])
        shop.block("oak")
        for name in ("a", "b", "c", "d"):
            shop.sheet(name)
        shop.print_on("oak", "sea", "b")
        shop.print_on("oak", "sea", "c")
        self.assertEqual(shop.can(["a", "b", "c"]), ("never", "b"))
        self.assertEqual(shop.can(["d", "c", "a", "b"]), ("never", "c"))
        self.assertEqual(shop.can(["c", "c"]), ("never", "c"))
        self.assertEqual(shop.can(["a", "d"]), ("fresh", 0))

    def test_an_unknown_name_ahead_of_all_else(self):
        shop = Shop(PLAIN, (1, 1), [1, 1])
        shop.block("oak")
        shop.sheet("a")
        shop.sheet("b")
        shop.print_on("oak", "sea", "b")
        for names in (["b", "x"], ["x", "b"], ["a", "b", "x"], ["a", "x"], ["a", ""], ["b", "oak"], ["b", "B"]):
            self.assert_refused(NoName, shop, "can", names)

    def test_a_name_may_come_twice(self):
        shop = plain_shop()
        shop.sheet("one")
        self.assertEqual(shop.can(["one", "one"]), ("fresh", 1))
        shop.block("oak")
        self.assertEqual(shop.can(["one", "one", "one"]), ("fresh", 0))

    def test_inks_that_any_of_them_lacks(self):
        shop = Shop(PLAIN, SIZE, [7, 56])
        for name in ("one", "two"):
            shop.sheet(name)
        shop.block("oak")
        shop.cut("oak", ("row", 1, 0, 2))
        shop.print_on("oak", "sun", "one")
        shop.cut("oak", ("row", 0, 0, 0))
        self.assertEqual(shop.can(["one"]), ("fresh", 1))
        self.assertEqual(shop.can(["two"]), ("fresh", 2))
        self.assertEqual(shop.can(["one", "two"]), ("fresh", 2))

    def test_drawn_shops_against_sources(self):
        draw = Draw(34)
        size = (3, 1)
        for time in range(150):
            bench = EIGHT_COVERS if draw.below(2) else GLAZED
            many = len(bench[1])
            states = [draw.cells(size) for ink in bench[1]]
            shop = Shop(bench, size, states)
            for name in ["elm", "ash", "oak"][:draw.below(4)]:
                shop.block(name)
                for cut in range(draw.below(3)):
                    place = draw.below(3)
                    shop.cut(name, ("row", 0, place, place))
            shop.sheet("one")
            shop.sheet("two")
            for number in range(draw.below(many)):
                if "new" not in shop.blocks():
                    shop.block("new")
                for cell in cells_of(size, shop.wood("new") & ~states[number]):
                    shop.cut("new", ("row", 0, cell[0], cell[0]))
                if shop.wood("new") != states[number]:
                    break
                shop.print_on("new", bench[1][number][1], "two")
            rests = [shop.wood(name) for name in shop.blocks()]
            for names in (["one"], ["two"], ["two", "one"]):
                lacking = sorted({number for name in names for number in shop.lacks(name)})
                awaited = sources(rests, [states[number] for number in lacking])[1]
                self.assertEqual(shop.can(names), ("fresh", awaited))


class Whole(ShopTest):
    def test_a_plan_done_in_the_shop_shows_what_is_pressed(self):
        draw = Draw(35)
        letters = "abcdefgh"
        for bench in BENCHES + [draw.bench(8) for time in range(40)]:
            size = draw.size(8)
            states = [draw.cells(size) for ink in bench[1]]
            shop = Shop(bench, size, states)
            shop.sheet("one")
            for deed in plan_of(size, states):
                name = letters[deed[1]]
                if name not in shop.blocks():
                    shop.block(name)
                if deed[0] == "cut":
                    shop.cut(name, deed[2])
                else:
                    shop.print_on(name, bench[1][deed[2]][1], "one")
            self.assertEqual(shop.shows("one"), pressed(bench, size, states))
            self.assertEqual(shop.can(["one"]), ("fresh", 0))
            self.assertEqual(shop.lacks("one"), [])

    def test_the_greatest_size(self):
        size = (24, 24)
        last = set_of(size, [(23, 23)])
        shop = Shop(PLAIN, size, [all_of(size) - last, last])
        shop.block("oak")
        shop.sheet("one")
        told = self.assert_refused(Wrong, shop, "print_on", "oak", "sun", "one")
        self.assertEqual((told.column, told.row), (23, 23))
        shop.cut("oak", ("column", 23, 23, 23))
        shop.print_on("oak", "sun", "one")
        self.assertEqual(shop.shows("one"), [["yellow"] * 24] * 23 + [["yellow"] * 23 + ["white"]])
        self.assertEqual(shop.can(["one"]), ("fresh", 1))


if __name__ == "__main__":
    unittest.main()
