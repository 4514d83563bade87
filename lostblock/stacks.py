"""Stacks of inks for the colours of a wished picture, and its states by choices of them [11], [12]."""

from lostblock.boards import set_of
from lostblock.errors import NoStack
from lostblock.inks import colour_of
from lostblock.pictures import size_of


def all_stacks(many):
    stacks = [()]
    for number in range(many):
        stacks = stacks + [stack + (number,) for stack in stacks]
    return sorted(stacks, key=lambda stack: (len(stack), stack))


def stacks_by_colour(bench):
    by_colour = {}
    for stack in all_stacks(len(bench[1])):
        by_colour.setdefault(colour_of(bench, stack), []).append(stack)
    return by_colour


def stacks_of(bench, colour):
    return stacks_by_colour(bench).get(colour, [])


def cells_by_colour(picture):
    by_colour = {}
    for row, colours in enumerate(picture):
        for column, colour in enumerate(colours):
            by_colour.setdefault(colour, []).append((column, row))
    return by_colour


def stacks_for(bench, picture):
    stacks = stacks_by_colour(bench)
    cells = cells_by_colour(picture)
    # The colours came in the order of their first cells, so the first one without a stack has the first such cell.
    for colour in cells:
        if colour not in stacks:
            raise NoStack(colour, cells[colour][0][0], cells[colour][0][1])
    return dict([(colour, stacks[colour]) for colour in sorted(cells)])


def least_choices(bench, picture):
    return dict([(colour, stacks[0]) for colour, stacks in stacks_for(bench, picture).items()])


def sets_by_colour(picture):
    size = size_of(picture)
    return dict([(colour, set_of(size, cells)) for colour, cells in cells_by_colour(picture).items()])


def state_of(sets, choices, number):
    state = 0
    for colour in sets:
        if number in choices[colour]:
            state = state | sets[colour]
    return state


def states_by(bench, picture, choices):
    sets = sets_by_colour(picture)
    return [state_of(sets, choices, number) for number in range(len(bench[1]))]
