"""The shop: blocks that are cut on, and sheets that are printed and spoiled [22] to [24]."""

from lostblock.benches import number_of_ink
from lostblock.boards import all_of, cells_of
from lostblock.errors import NoName, NoStroke, Order, Twice, Wrong
from lostblock.looks import states_printed
from lostblock.press import pressed
from lostblock.rests import FRESH, sources
from lostblock.strokes import cells_cut, lies_on
from lostblock.words import is_word

NEVER = "never"


def check_new(kept, name):
    if not is_word(name):
        raise NoName()
    if name in kept:
        raise Twice()


def check_there(kept, name):
    # Only words are kept, and asked for: a thing of another kind could not even be looked up.
    if not is_word(name) or name not in kept:
        raise NoName()


class Shop:
    def __init__(self, bench, size, states):
        # Lists of its own, so that what is done later to those handed in changes nothing here.
        self.bench = (bench[0], list(bench[1]))
        self.size = size
        self.states = list(states)
        self.woods = {}
        self.prints = {}

    def block(self, name):
        check_new(self.woods, name)
        self.woods[name] = all_of(self.size)

    def sheet(self, name):
        check_new(self.prints, name)
        self.prints[name] = {}

    def spoil(self, name):
        check_there(self.prints, name)
        self.prints.pop(name)

    def cut(self, name, stroke):
        check_there(self.woods, name)
        if not lies_on(self.size, stroke):
            raise NoStroke()
        self.woods[name] = self.woods[name] & ~cells_cut(self.size, stroke)

    def print_on(self, name, ink, sheet):
        check_there(self.woods, name)
        check_there(self.prints, sheet)
        number = number_of_ink(self.bench[1], ink)
        if number is None:
            raise NoName()
        if any([other >= number for other in self.prints[sheet]]):
            raise Order()
        unlike = cells_of(self.size, self.woods[name] ^ self.states[number])
        if len(unlike) > 0:
            raise Wrong(unlike[0][0], unlike[0][1])
        self.prints[sheet][number] = self.woods[name]

    def wood(self, name):
        check_there(self.woods, name)
        return self.woods[name]

    def shows(self, sheet):
        check_there(self.prints, sheet)
        return pressed(self.bench, self.size, states_printed(len(self.bench[1]), self.prints[sheet]))

    def blocks(self):
        return sorted(self.woods)

    def sheets(self):
        return sorted(self.prints)

    def lacks(self, sheet):
        check_there(self.prints, sheet)
        return [number for number in range(len(self.bench[1])) if number not in self.prints[sheet]]

    def is_lost(self, sheet):
        lacking = self.lacks(sheet)
        # The first ink that it lacks tells: no ink can be printed behind a later one.
        return len(lacking) > 0 and any([number > lacking[0] for number in self.prints[sheet]])

    def can(self, names):
        for name in names:
            check_there(self.prints, name)
        for name in names:
            if self.is_lost(name):
                return (NEVER, name)
        return (FRESH, self.fresh_for(names))

    def fresh_for(self, names):
        lacking = {}
        for name in names:
            for number in self.lacks(name):
                lacking[number] = True
        rests = [self.woods[name] for name in self.blocks()]
        return sources(rests, [self.states[number] for number in sorted(lacking)])[1]
