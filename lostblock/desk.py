"""The desk: rows of words that are told to a shop, and their answers [25]."""

from lostblock.benches import number_of_ink, read_bench
from lostblock.boards import shown
from lostblock.chains import fewest_blocks
from lostblock.choices import best_choices
from lostblock.errors import NoName, NoRow
from lostblock.notes import shown_plan, stroke_of
from lostblock.pictures import read_picture, shown_picture, size_of
from lostblock.plans import CUT, plan_of
from lostblock.shop import Shop
from lostblock.stacks import least_choices, states_by

DEEDS = ("block", "sheet", "spoil", "cut", "print")
SHOP_QUESTIONS = ("wood", "shows", "can")
# How many words a row has, by its first one; with can it may be more.
MANY_WORDS = {
    "block": 2, "sheet": 2, "spoil": 2, "cut": 6, "print": 4, "wood": 2, "shows": 2, "can": 2,
    "blocks": 1, "strokes": 1, "plan": 1, "best": 1, "state": 2,
}


def check_row(words):
    if words[0] not in MANY_WORDS:
        raise NoRow()
    if len(words) < MANY_WORDS[words[0]] or (len(words) > MANY_WORDS[words[0]] and words[0] != "can"):
        raise NoRow()
    if words[0] == "cut" and stroke_of(words[2:]) is None:
        raise NoRow()


def in_one_row(text):
    return text.replace("\n", " / ")


class Desk:
    def __init__(self, bench_text, picture_text):
        self.bench = read_bench(bench_text)
        self.picture = read_picture(picture_text)
        self.size = size_of(self.picture)
        self.states = states_by(self.bench, self.picture, least_choices(self.bench, self.picture))
        self.shop = Shop(self.bench, self.size, self.states)

    def say(self, row):
        words = row.split(" ")
        check_row(words)
        if words[0] in DEEDS:
            self.do_deed(words)
            return "ok"
        if words[0] in SHOP_QUESTIONS:
            return self.told_of_shop(words)
        return self.told_of_states(words)

    def do_deed(self, words):
        if words[0] == "block":
            self.shop.block(words[1])
        elif words[0] == "sheet":
            self.shop.sheet(words[1])
        elif words[0] == "spoil":
            self.shop.spoil(words[1])
        elif words[0] == "cut":
            self.shop.cut(words[1], stroke_of(words[2:]))
        else:
            self.shop.print_on(words[1], words[2], words[3])

    def told_of_shop(self, words):
        if words[0] == "wood":
            return in_one_row(shown(self.size, self.shop.wood(words[1])))
        if words[0] == "shows":
            return in_one_row(shown_picture(self.shop.shows(words[1])))
        told = self.shop.can(words[1:])
        return " ".join([told[0], str(told[1])])

    def told_of_states(self, words):
        if words[0] == "blocks":
            return str(len(fewest_blocks(self.states)[0]))
        if words[0] == "best":
            return str(best_choices(self.bench, self.picture)[1])
        if words[0] == "state":
            return in_one_row(shown(self.size, self.state_of_ink(words[1])))
        plan = plan_of(self.size, self.states)
        if words[0] == "strokes":
            return str(len([deed for deed in plan if deed[0] == CUT]))
        return in_one_row(shown_plan(plan))

    def state_of_ink(self, name):
        number = number_of_ink(self.bench[1], name)
        if number is None:
            raise NoName()
        return self.states[number]
