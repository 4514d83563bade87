"""[25] The desk, and [0.2] and [0.4] over the whole."""

import itertools
import unittest

from lostblock.benches import shown_bench
from lostblock.boards import shown
from lostblock.chains import fewest_blocks
from lostblock.choices import best_choices
from lostblock.desk import Desk
from lostblock.errors import BlockError, NoBench, NoName, NoPicture, NoRow, NoStack, NoStroke, Order, TooMany, Twice, Wrong
from lostblock.notes import read_plan, shown_plan
from lostblock.pictures import shown_picture
from lostblock.plans import plan_of
from lostblock.press import pressed
from lostblock.stacks import least_choices, stacks_of, states_by
from samples import BENCHES, Draw, EIGHT_COVERS, GLAZED, PLAIN

BENCH_TEXT = shown_bench(PLAIN)
PICTURE = [["blue", "yellow", "yellow"], ["white", "blue", "white"]]
PICTURE_TEXT = "blue yellow yellow\nwhite blue white"
QUESTIONS = ("blocks", "strokes", "plan", "best", "state sun", "state sea")
NO_NUMBERS = ("", "00", "01", "1000", "-1", "+1", "a", "one", "1.0", "1_0", "#")
NO_NAMES = ("", "A", "Red", "nineletts", "a1", "a\n", "-")


def plain_desk(*rows):
    desk = Desk(BENCH_TEXT, PICTURE_TEXT)
    for row in rows:
        desk.say(row)
    return desk


def said(desk, row):
    """The answer, or the class of the refusal."""
    try:
        return desk.say(row)
    except BlockError as refusal:
        return type(refusal)


def told_of(desk):
    """What a desk tells of names that the tests here use."""
    names = ("oak", "elm", "one", "two", "a")
    rows = [word + " " + name for word in ("wood", "shows", "can") for name in names]
    return [said(desk, row) for row in rows + list(QUESTIONS)]


class DeskTest(unittest.TestCase):
    def assert_refused(self, refusal, desk, row):
        before = told_of(desk)
        with self.assertRaises(BlockError) as taken:
            desk.say(row)
        self.assertIs(type(taken.exception), refusal, repr(row))
        self.assertEqual(told_of(desk), before)
        return taken.exception

    def assert_says(self, desk, row, awaited):
        answer = desk.say(row)
        self.assertIs(type(answer), str)
        self.assertEqual(answer, awaited, row)


class Made(DeskTest):
    def assert_not_made(self, refusal, bench_text, picture_text):
        with self.assertRaises(BlockError) as taken:
            Desk(bench_text, picture_text)
        self.assertIs(type(taken.exception), refusal)
        return taken.exception

    def test_no_bench(self):
        self.assertEqual(self.assert_not_made(NoBench, "", PICTURE_TEXT).row, 0)
        self.assertEqual(self.assert_not_made(NoBench, "paper white", PICTURE_TEXT).row, 1)
        self.assertEqual(self.assert_not_made(NoBench, BENCH_TEXT + "\n", PICTURE_TEXT).row, 3)

    def test_no_picture(self):
        self.assertEqual(self.assert_not_made(NoPicture, BENCH_TEXT, "").row, 0)
        self.assertEqual(self.assert_not_made(NoPicture, BENCH_TEXT, PICTURE_TEXT + "\n").row, 2)
        self.assertEqual(self.assert_not_made(NoPicture, BENCH_TEXT, "blue blue\nblue").row, 1)

    def test_no_stack(self):
        told = self.assert_not_made(NoStack, BENCH_TEXT, "blue zz\nred zz")
        self.assertEqual((told.colour, told.column, told.row), ("zz", 1, 0))

    def test_the_bench_ahead_of_the_picture_ahead_of_the_stacks(self):
        self.assert_not_made(NoBench, "paper", "")
        self.assert_not_made(NoBench, "paper white", "red")
        self.assert_not_made(NoPicture, BENCH_TEXT, "red\nblue blue")

    def test_a_new_desk_has_no_blocks_and_no_sheets(self):
        self.assertEqual(told_of(plain_desk())[:15], [NoName] * 15)

    def test_two_desks_apart(self):
        one, other = plain_desk(), plain_desk()
        one.say("block oak")
        self.assert_refused(NoName, other, "wood oak")


class Shops(DeskTest):
    def test_each_deed_answers_ok(self):
        desk = plain_desk()
        for row in ("block oak", "sheet one", "cut oak row 1 0 2", "cut oak column 0 0 0", "print oak sun one",
                    "block elm", "cut elm row 0 1 2", "cut elm column 0 1 1", "cut elm column 2 1 1",
                    "print elm sea one", "spoil one"):
            self.assert_says(desk, row, "ok")

    def test_the_whole_of_a_sheet(self):
        desk = plain_desk("block oak", "block elm", "sheet one")
        self.assert_says(desk, "shows one", "white white white / white white white")
        self.assert_says(desk, "can one", "fresh 0")
        self.assert_says(desk, "wood oak", "### / ###")
        desk.say("cut oak row 1 0 2")
        self.assert_says(desk, "wood oak", "### / ...")
        desk.say("cut oak column 0 0 0")
        self.assert_says(desk, "wood oak", ".## / ...")
        desk.say("print oak sun one")
        self.assert_says(desk, "shows one", "white yellow yellow / white white white")
        for row in ("cut elm row 0 1 2", "cut elm row 1 0 0", "cut elm row 1 2 2"):
            desk.say(row)
        self.assert_says(desk, "wood elm", "#.. / .#.")
        desk.say("print elm sea one")
        self.assert_says(desk, "shows one", "blue yellow yellow / white blue white")

    def test_can(self):
        desk = plain_desk("sheet one", "sheet two", "sheet a")
        self.assert_says(desk, "can one", "fresh 2")
        self.assert_says(desk, "can one two a", "fresh 2")
        self.assert_says(desk, "can one one", "fresh 2")
        desk.say("block oak")
        self.assert_says(desk, "can two one", "fresh 1")
        for row in ("cut oak row 0 1 2", "cut oak row 1 0 0", "cut oak row 1 2 2", "print oak sea two", "print oak sea a"):
            desk.say(row)
        self.assert_says(desk, "can one two a", "never two")
        self.assert_says(desk, "can one a two", "never a")
        self.assert_says(desk, "can one", "fresh 1")

    def test_one_row_and_one_cell(self):
        desk = Desk(BENCH_TEXT, "blue")
        for row in ("block oak", "sheet one"):
            desk.say(row)
        self.assert_says(desk, "wood oak", "#")
        self.assert_says(desk, "shows one", "white")
        self.assert_says(desk, "state sea", "#")

    def test_refused_as_the_shop_refuses(self):
        desk = plain_desk("block oak", "sheet one", "block a", "sheet a")
        for row in ("block oak", "sheet one", "block a", "sheet a"):
            self.assert_refused(Twice, desk, row)
        for row in ("spoil two", "spoil oak", "wood elm", "wood one", "shows oak", "shows two", "can oak", "can one two",
                    "can two one", "cut elm row 0 0 0", "cut one row 0 0 0", "print elm sun one", "print oak sun two"):
            self.assert_refused(NoName, desk, row)
        for row in ("cut oak row 2 0 0", "cut oak row 0 0 3", "cut oak column 3 0 0", "cut oak column 0 0 2",
                    "cut oak row 999 998 999"):
            self.assert_refused(NoStroke, desk, row)
        told = self.assert_refused(Wrong, desk, "print oak sun one")
        self.assertEqual((told.column, told.row), (0, 0))

    def test_no_name_ahead_of_no_stroke(self):
        self.assert_refused(NoName, plain_desk(), "cut oak row 9 0 0")

    def test_order(self):
        desk = plain_desk("block oak", "sheet one", "cut oak row 1 0 2", "cut oak row 0 0 0", "print oak sun one")
        self.assert_refused(Order, desk, "print oak sun one")
        self.assert_refused(Wrong, desk, "print oak sea one")

    def test_an_ink_that_the_bench_does_not_have(self):
        desk = plain_desk("block oak", "sheet one")
        for name in NO_NAMES + ("yellow", "white", "oak", "one", "moon"):
            self.assert_refused(NoName, desk, "state " + name)
            self.assert_refused(NoName, desk, "print oak " + name + " one")
        self.assert_refused(NoName, plain_desk(), "print oak moon one")

    def test_names_that_are_no_words(self):
        desk = plain_desk("block oak", "sheet one")
        for name in NO_NAMES:
            for row in ("block " + name, "sheet " + name, "spoil " + name, "wood " + name, "shows " + name, "can " + name,
                        "can one " + name, "cut " + name + " row 0 0 0", "print " + name + " sun one",
                        "print oak sun " + name):
                self.assert_refused(NoName, desk, row)

    def test_words_of_rows_as_names(self):
        desk = plain_desk()
        for row in ("block block", "sheet sheet", "block can", "sheet can", "cut can row 0 0 0"):
            self.assert_says(desk, row, "ok")
        self.assert_says(desk, "can can sheet", "fresh 0")


class Rows(DeskTest):
    def test_unknown_first_words(self):
        desk = plain_desk("block oak", "sheet one")
        for row in ("", "x", "Block oak", "blocked oak", "prints oak sun one", "strokes?", "lacks one", "sheets", "row",
                    "blocks\n", "plans", "say blocks", "oak", "stack blue", "\tblocks", "\n", "fresh", "ok", "least"):
            self.assert_refused(NoRow, desk, row)

    def test_too_few_or_too_many_words(self):
        desk = plain_desk("block oak", "sheet one")
        for row in ("block", "block a b", "sheet", "sheet a b", "spoil", "spoil one one", "cut", "cut oak", "cut oak row",
                    "cut oak row 0", "cut oak row 0 0", "cut oak row 0 0 0 0", "cut oak column 0 0",
                    "cut oak column 0 0 0 0", "print", "print oak", "print oak sun", "print oak sun one one", "wood",
                    "wood oak oak", "shows", "shows one one", "can", "blocks 1", "strokes oak", "plan one", "best one",
                    "state", "state sun sea", "blocks ", "plan ", "best ", "strokes "):
            self.assert_refused(NoRow, desk, row)

    def test_numbers_that_are_none(self):
        for desk in (plain_desk("block oak"), plain_desk()):
            for word in NO_NUMBERS:
                for kind in ("row", "column"):
                    self.assert_refused(NoRow, desk, "cut oak " + kind + " " + word + " 0 0")
                    self.assert_refused(NoRow, desk, "cut oak " + kind + " 0 " + word + " 0")
                    self.assert_refused(NoRow, desk, "cut oak " + kind + " 0 0 " + word)

    def test_another_word_than_row_or_column(self):
        for desk in (plain_desk("block oak"), plain_desk()):
            for word in ("rows", "line", "Row", "", "0", "cut"):
                self.assert_refused(NoRow, desk, "cut oak " + word + " 0 0 0")

    def test_first_above_last_also_where_the_block_is_not_there(self):
        for desk in (plain_desk("block oak"), plain_desk()):
            for row in ("cut oak row 0 1 0", "cut oak column 0 1 0", "cut oak row 0 2 1", "cut oak row 999 999 998",
                        "cut A row 0 1 0"):
                self.assert_refused(NoRow, desk, row)

    def test_a_word_without_signs(self):
        desk = plain_desk("block oak", "sheet one")
        for row in (" block a", " blocks", "  ", " ", "block  a", "sheet  a", "wood  oak", "wood oak ", "shows one ",
                    "spoil one ", "cut oak  row 0 0 0", "cut oak row 0 0 0 ", "cut oak row 0 0 ", "print oak sun one ",
                    "print oak  sun one", "state sun ", "state  sun", " plan", " can one"):
            self.assert_refused(NoRow, desk, row)
        for row in ("block ", "sheet ", "spoil ", "wood ", "shows ", "can ", "can one ", "can  one", "can one  one",
                    "cut  row 0 0 0", "print oak  one", "print  sun one", "print oak sun ", "state "):
            self.assert_refused(NoName, desk, row)

    def test_tabs_and_line_ends_part_no_words(self):
        desk = plain_desk("block oak", "sheet one")
        self.assert_refused(NoRow, desk, "block\ta")
        self.assert_refused(NoRow, desk, "cut oak row 0 0 0\n")
        self.assert_refused(NoName, desk, "block a\n")
        self.assert_refused(NoName, desk, "block a\tb")
        self.assert_refused(NoName, desk, "can one\none")


class Questions(DeskTest):
    def test_by_hand(self):
        desk = plain_desk()
        self.assert_says(desk, "state sun", ".## / ...")
        self.assert_says(desk, "state sea", "#.. / .#.")
        self.assert_says(desk, "blocks", "2")
        self.assert_says(desk, "best", "1")
        self.assertEqual(len(desk.say("plan").split(" / ")), int(desk.say("strokes")) + 2)

    def test_as_the_other_modules_tell(self):
        draw = Draw(36)
        for bench in BENCHES + [draw.bench(8) for time in range(40)]:
            size = draw.size(6)
            picture = pressed(bench, size, [draw.cells(size) for ink in bench[1]])
            desk = Desk(shown_bench(bench), shown_picture(picture))
            states = states_by(bench, picture, least_choices(bench, picture))
            plan = plan_of(size, states)
            self.assert_says(desk, "blocks", str(len(fewest_blocks(states)[0])))
            self.assert_says(desk, "plan", shown_plan(plan).replace("\n", " / "))
            self.assert_says(desk, "strokes", str(len([deed for deed in plan if deed[0] == "cut"])))
            for ink, state in zip(bench[1], states):
                self.assert_says(desk, "state " + ink[1], shown(size, state).replace("\n", " / "))
            try:
                awaited = str(best_choices(bench, picture)[1])
            except TooMany:
                awaited = TooMany
            self.assertEqual(said(desk, "best"), awaited)

    def test_too_many_choices(self):
        desk = Desk(shown_bench(EIGHT_COVERS), "hh gg ff")
        self.assert_refused(TooMany, desk, "best")
        self.assert_says(desk, "blocks", "4")

    def test_they_speak_of_the_states_whatever_is_done_in_the_shop(self):
        desk = plain_desk()
        before = [desk.say(row) for row in QUESTIONS]
        for row in ("block oak", "cut oak row 0 0 2", "sheet one", "block elm"):
            desk.say(row)
        self.assertEqual([desk.say(row) for row in QUESTIONS], before)

    def test_the_greatest_size(self):
        picture = [["blue" if (row * column) % 3 else "yellow" for column in range(24)] for row in range(24)]
        desk = Desk(BENCH_TEXT, shown_picture(picture))
        desk.say("sheet one")
        self.assert_says(desk, "shows one", " / ".join([" ".join(["white"] * 24)] * 24))
        self.assert_says(desk, "blocks", "2")
        self.assertEqual(len(desk.say("state sun").split(" / ")), 24)


class Whole(DeskTest):
    """[0.4] The desk's plan, done in the shop row by row, shows the picture."""

    def assert_done(self, bench, picture):
        desk = Desk(shown_bench(bench), shown_picture(picture))
        desk.say("sheet one")
        self.assert_says(desk, "can one", "fresh " + desk.say("blocks"))
        for number in range(int(desk.say("blocks"))):
            desk.say("block " + "abcdefgh"[number])
        self.assert_says(desk, "can one", "fresh 0")
        strokes = 0
        for deed in read_plan(desk.say("plan").replace(" / ", "\n")):
            name = "abcdefgh"[deed[1]]
            if deed[0] == "cut":
                self.assert_says(desk, " ".join(["cut", name] + [str(part) for part in deed[2]]), "ok")
                strokes += 1
            else:
                ink = bench[1][deed[2]][1]
                self.assertEqual(desk.say("wood " + name), desk.say("state " + ink))
                self.assert_says(desk, "print " + name + " " + ink + " one", "ok")
                self.assert_says(desk, "can one", "fresh 0")
        self.assert_says(desk, "strokes", str(strokes))
        self.assert_says(desk, "shows one", shown_picture(picture).replace("\n", " / "))

    def test_every_small_picture_of_some_benches(self):
        for bench in (PLAIN, GLAZED):
            colours = [colour for colour in ("white", "yellow", "blue", "green", "grey", "black") if stacks_of(bench, colour)]
            for chosen in itertools.product(colours, repeat=4):
                self.assert_done(bench, [list(chosen[:2]), list(chosen[2:])])

    def test_drawn_benches_and_pictures(self):
        draw = Draw(37)
        for bench in BENCHES + [draw.bench(8) for time in range(60)]:
            size = draw.size(7)
            self.assert_done(bench, pressed(bench, size, [draw.cells(size) for ink in bench[1]]))

    def test_every_picture_is_told_or_a_cell_is(self):
        draw = Draw(38)
        for time in range(120):
            bench = draw.bench(3)
            size = draw.size(3)
            picture = [[draw.one_of("abcd") for column in range(size[0])] for row in range(size[1])]
            unshown = [(colour, column, row) for row, colours in enumerate(picture)
                       for column, colour in enumerate(colours) if not stacks_of(bench, colour)]
            if unshown:
                with self.assertRaises(NoStack) as taken:
                    Desk(shown_bench(bench), shown_picture(picture))
                told = taken.exception
                self.assertEqual((told.colour, told.column, told.row), unshown[0])
            else:
                self.assert_done(bench, picture)


if __name__ == "__main__":
    unittest.main()
