"""Plans of cuts and prints: replayed, and made of states [16], [17]."""

from lostblock.boards import all_of, is_whole
from lostblock.chains import fewest_blocks
from lostblock.errors import NoDeed
from lostblock.strokes import cells_cut, fewest_strokes, lies_on

CUT = "cut"
PRINT = "print"


def is_number(thing):
    return is_whole(thing) and thing >= 0


def is_deed(size, thing):
    if not isinstance(thing, tuple) or len(thing) != 3:
        return False
    if not isinstance(thing[0], str) or not is_number(thing[1]):
        return False
    if thing[0] == CUT:
        return lies_on(size, thing[2])
    return thing[0] == PRINT and is_number(thing[2])


def can_follow(prints, ink, many_inks):
    if many_inks is not None and ink >= many_inks:
        return False
    return len(prints) == 0 or ink > prints[-1][0]


def replayed_with(size, plan, many_inks):
    # many_inks is None where it is not looked at whether a bench has the inks.
    woods = {}
    prints = []
    for place, thing in enumerate(plan):
        if not is_deed(size, thing):
            raise NoDeed(place)
        wood = woods.get(thing[1], all_of(size))
        if thing[0] == CUT:
            woods[thing[1]] = wood & ~cells_cut(size, thing[2])
        elif can_follow(prints, thing[2], many_inks):
            prints.append((thing[2], wood))
        else:
            raise NoDeed(place)
    return prints


def replayed(size, plan):
    return replayed_with(size, plan, None)


def blocks_by_state(states):
    block_of = {}
    for block, chain in enumerate(fewest_blocks(states)[0]):
        for number in chain:
            block_of[number] = block
    return block_of


def plan_of(size, states):
    block_of = blocks_by_state(states)
    woods = {}
    plan = []
    for number, state in enumerate(states):
        block = block_of[number]
        away = woods.get(block, all_of(size)) & ~state
        plan.extend([(CUT, block, stroke) for stroke in fewest_strokes(size, away, state)[0]])
        plan.append((PRINT, block, number))
        woods[block] = state
    return plan
