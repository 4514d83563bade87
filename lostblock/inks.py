"""Inks, what they show when they are laid, and the colour of a stack [5], [8]."""

COVER = "cover"
GLAZE = "glaze"


def laid(ink, colour):
    if ink[0] == COVER:
        return ink[2]
    for under, over in ink[2]:
        if under == colour:
            return over
    return colour


def colour_of(bench, stack):
    colour = bench[0]
    for number in stack:
        colour = laid(bench[1][number], colour)
    return colour
