"""[18] Plans as they are written, and [0.2] as far as it touches them."""

import copy
import unittest

from lostblock.errors import BlockError, NoPlan
from lostblock.notes import number_of, read_plan, shown_plan
from lostblock.plans import plan_of
from samples import Draw

NO_NUMBERS = (
    "", "00", "01", "007", "000", "1000", "9999", "0000", "12345678901234567890", "-1", "-0", "+1", "1.0", "1e2", "1_0",
    "0x1", "a", "one", "1a", "a1", "1\t", "\t1", "1\r", "1/2", "#", ".", "1,", "\u00b2", "\u0661", "\uff11", "1\u0662",
)


class NumberOf(unittest.TestCase):
    def test_every_number_of_up_to_three_figures(self):
        for number in range(1000):
            told = number_of(str(number))
            self.assertEqual(told, number)
            self.assertIs(type(told), int)

    def test_four_figures_and_more(self):
        for number in (1000, 1001, 2500, 9999, 10000, 10 ** 30):
            self.assertIsNone(number_of(str(number)))

    def test_a_nought_ahead(self):
        for number in range(100):
            self.assertIsNone(number_of("0" + str(number)))
        self.assertIsNone(number_of("0000"))

    def test_other_texts(self):
        for text in NO_NUMBERS + (" ", "1 ", " 1", "1 2", "\n", "1\n", "\n1"):
            self.assertIsNone(number_of(text), repr(text))

    def test_each_ascii_sign_that_is_no_figure(self):
        for code in range(128):
            sign = chr(code)
            if sign not in "0123456789":
                for text in (sign, "1" + sign, sign + "1", "1" + sign + "1"):
                    self.assertIsNone(number_of(text), repr(text))

    def test_figures_that_are_not_ascii(self):
        for text in ("\u0660", "\u0661\u0662", "\u00b9", "\u00bd", "\u2460", "\u0967", "\uff10", "1\uff12", "\U0001d7d8"):
            self.assertIsNone(number_of(text), repr(text))


class Written(unittest.TestCase):
    def assert_again(self, plan):
        kept = copy.deepcopy(plan)
        text = shown_plan(plan)
        self.assertEqual(plan, kept)
        self.assertIs(type(text), str)
        told = read_plan(text)
        self.assertEqual(told, plan)
        self.assertIs(type(told), list)
        for deed in told:
            self.assertIs(type(deed), tuple)
            self.assertIs(type(deed[1]), int)
            self.assertIs(type(deed[2]), int if deed[0] == "print" else tuple)
        self.assertEqual(shown_plan(told), text)

    def test_by_hand(self):
        plan = [("cut", 0, ("row", 1, 2, 3)), ("cut", 12, ("column", 23, 0, 999)), ("print", 7, 0), ("print", 999, 10)]
        text = "cut 0 row 1 2 3\ncut 12 column 23 0 999\nprint 7 0\nprint 999 10"
        self.assertEqual(shown_plan(plan), text)
        self.assertEqual(read_plan(text), plan)

    def test_no_deeds(self):
        self.assertEqual(shown_plan([]), "")
        self.assertEqual(read_plan(""), [])

    def test_one_deed(self):
        for plan in ([("print", 0, 0)], [("cut", 0, ("row", 0, 0, 0))], [("cut", 0, ("column", 0, 0, 0))]):
            self.assert_again(plan)

    def test_numbers_up_to_999(self):
        for number in (0, 1, 9, 10, 99, 100, 999):
            self.assert_again([("print", number, 5), ("print", 5, number)])
            self.assert_again([("cut", number, ("row", number, 0, number)), ("cut", 0, ("column", 5, number, number))])

    def test_the_size_and_the_inks_order_are_not_looked_at(self):
        self.assertEqual(read_plan("print 0 5\nprint 0 5\nprint 0 0"), [("print", 0, 5), ("print", 0, 5), ("print", 0, 0)])
        self.assertEqual(read_plan("cut 0 row 999 998 999"), [("cut", 0, ("row", 999, 998, 999))])

    def test_plans_of_states(self):
        draw = Draw(23)
        for time in range(40):
            size = draw.size(24)
            self.assert_again(plan_of(size, [draw.cells(size) for number in range(1 + draw.below(8))]))

    def test_lists_are_new_at_each_time(self):
        for text in ("", "print 0 0\ncut 0 row 0 0 0"):
            kept = read_plan(text)
            read_plan(text).append(None)
            told = read_plan(text)
            self.assertEqual(told, kept)
            told.clear()
            self.assertEqual(read_plan(text), kept)


class Refused(unittest.TestCase):
    def assert_refused(self, text, row):
        with self.assertRaises(NoPlan) as taken:
            read_plan(text)
        self.assertEqual(taken.exception.row, row, repr(text))
        self.assertIs(type(taken.exception.row), int)
        self.assertIsInstance(taken.exception, BlockError)

    def assert_row_refused(self, row):
        """The row can't stand, wherever it is. (A row without signs alone is the plan of no deeds.)"""
        if row:
            self.assert_refused(row, 0)
        self.assert_refused(row + "\nprint 0 0", 0)
        self.assert_refused("print 0 0\n" + row, 1)
        self.assert_refused("print 0 0\ncut 0 row 0 0 0\n" + row + "\nprint 0 1", 2)

    def test_a_word_too_few_or_too_many(self):
        for row in ("print", "print 0", "print 0 0 0", "cut", "cut 0", "cut 0 row", "cut 0 row 0", "cut 0 row 0 0",
                    "cut 0 row 0 0 0 0", "cut 0 column 0 0", "cut 0 column 0 0 0 0", "cut row 0 0 0", "0", "row 0 0 0"):
            self.assert_row_refused(row)

    def test_another_word(self):
        for row in ("prints 0 0", "Print 0 0", "cuts 0 row 0 0 0", "cut 0 rows 0 0 0", "cut 0 Row 0 0 0",
                    "cut 0 line 0 0 0", "print 0 row 0 0 0", "cut 0 0", "row 0 cut 0 0 0", "cut 0 columns 0 0 0",
                    "cut 0 print 0 0 0", "cut 0 0 0 0 0", "x", "0 0 0", "print row 0"):
            self.assert_row_refused(row)

    def test_a_number_that_is_none(self):
        for word in NO_NUMBERS:
            for row in ("print " + word + " 0", "print 0 " + word, "cut " + word + " row 0 0 0", "cut 0 row " + word + " 0 0",
                        "cut 0 row 0 " + word + " 0", "cut 0 row 0 0 " + word, "cut 0 column " + word + " 0 0",
                        "cut 0 column 0 0 " + word):
                self.assert_row_refused(row)

    def test_first_above_last(self):
        for row in ("cut 0 row 0 1 0", "cut 0 column 0 1 0", "cut 0 row 9 999 998", "cut 0 row 0 10 9", "cut 0 column 0 2 1"):
            self.assert_row_refused(row)

    def test_blanks_and_tabs(self):
        for row in ("print  0 0", "print 0  0", " print 0 0", "print 0 0 ", "print 0 ", "print\t0 0", "print 0\t0",
                    "print 0 0\t", "\tprint 0 0", "cut  0 row 0 0 0", "cut 0 row 0 0 0 ", " cut 0 row 0 0 0",
                    "cut 0 row 0 0  0", "cut 0 row 0\t0 0", "cut 0 row 0 0 ", " ", "  ", "\t", "print 0 0\r"):
            self.assert_row_refused(row)

    def test_a_row_without_signs(self):
        self.assert_row_refused("")
        self.assert_refused("\n", 0)
        self.assert_refused("\n\n", 0)
        self.assert_refused("\nprint 0 0", 0)
        self.assert_refused("print 0 0\n\nprint 0 1", 1)

    def test_a_line_end_behind_the_text(self):
        self.assert_refused("print 0 0\n", 1)
        self.assert_refused("print 0 0\nprint 0 1\n", 2)
        self.assert_refused("print 0 0\n\n", 1)

    def test_the_first_row_counts(self):
        self.assert_refused("print 0 0\nx\ncut 0 row 0 1 0\n", 1)
        self.assert_refused("print 0 0\ncut 0 row 0 1 0\nx\n", 1)
        self.assert_refused("x\n\nprint", 0)


if __name__ == "__main__":
    unittest.main()
