"""The press: what a sheet shows behind the prints of its states [10]."""

from lostblock.boards import has_cell
from lostblock.inks import colour_of


def stack_at(size, states, cell):
    return tuple([number for number, state in enumerate(states) if has_cell(size, state, cell)])


def pressed_row(bench, size, states, row):
    return [colour_of(bench, stack_at(size, states, (column, row))) for column in range(size[0])]


def pressed(bench, size, states):
    return [pressed_row(bench, size, states, row) for row in range(size[1])]
