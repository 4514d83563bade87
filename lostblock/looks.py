"""Plans looked through: held against a wished picture [19]."""

from lostblock.pictures import size_of
from lostblock.plans import replayed_with
from lostblock.press import pressed


def states_printed(many_inks, prints):
    sets = dict(prints)
    return [sets.get(number, 0) for number in range(many_inks)]


def first_unlike(picture, wished):
    for row, colours in enumerate(picture):
        for column, colour in enumerate(colours):
            if colour != wished[row][column]:
                return (column, row, colour, wished[row][column])
    return None


def unlike_at(bench, picture, plan):
    size = size_of(picture)
    many_inks = len(bench[1])
    prints = replayed_with(size, plan, many_inks)
    return first_unlike(pressed(bench, size, states_printed(many_inks, prints)), picture)
