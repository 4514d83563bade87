"""The best of all choices of stacks for a wished picture [21]."""

from lostblock.chains import fewest_blocks
from lostblock.errors import TooMany
from lostblock.stacks import cells_by_colour, stacks_for, states_by

MOST_CHOICES = 300


def many_choices(stacks):
    many = 1
    for colour in stacks:
        many = many * len(stacks[colour])
    return many


def all_choices(stacks):
    every = [[]]
    for colour in stacks:
        longer = []
        for ahead in every:
            longer.extend([ahead + [stack] for stack in stacks[colour]])
        every = longer
    return every


def cells_printed(picture, choices):
    cells = cells_by_colour(picture)
    return sum([len(cells[colour]) * len(choices[colour]) for colour in cells])


def weighed(bench, picture, colours, chosen):
    choices = dict(zip(colours, chosen))
    blocks = len(fewest_blocks(states_by(bench, picture, choices))[0])
    return (blocks, cells_printed(picture, choices), chosen)


def best_choices(bench, picture):
    stacks = stacks_for(bench, picture)
    if many_choices(stacks) > MOST_CHOICES:
        raise TooMany()
    colours = list(stacks)
    best = min([weighed(bench, picture, colours, chosen) for chosen in all_choices(stacks)])
    return (dict(zip(colours, best[2])), best[0])
