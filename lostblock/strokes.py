"""Strokes of the gouge, and the fewest of them for a cutting [14], [15]."""

from lostblock.boards import cells_of, has_cell, is_whole, set_of
from lostblock.errors import Kept
from lostblock.matching import most_pairs, short_of_givers

ROW = "row"
COLUMN = "column"


def is_stroke(thing):
    if not isinstance(thing, tuple) or len(thing) != 4:
        return False
    if not isinstance(thing[0], str) or thing[0] not in (ROW, COLUMN):
        return False
    return all([is_whole(number) for number in thing[1:]]) and thing[2] <= thing[3]


def lines_of(size, kind):
    return size[1] if kind == ROW else size[0]


def length_of(size, kind):
    return size[0] if kind == ROW else size[1]


def lies_on(size, thing):
    if not is_stroke(thing):
        return False
    return 0 <= thing[1] < lines_of(size, thing[0]) and 0 <= thing[2] and thing[3] < length_of(size, thing[0])


def stroke_cells(stroke):
    if stroke[0] == ROW:
        return [(column, stroke[1]) for column in range(stroke[2], stroke[3] + 1)]
    return [(stroke[1], row) for row in range(stroke[2], stroke[3] + 1)]


def cells_cut(size, stroke):
    return set_of(size, stroke_cells(stroke))


def longest_strokes(size, keep, kind, line):
    last = length_of(size, kind) - 1
    cells = stroke_cells((kind, line, 0, last))
    kept = [-1] + [place for place, cell in enumerate(cells) if has_cell(size, keep, cell)] + [last + 1]
    return [(kind, line, one + 1, other - 1) for one, other in zip(kept, kept[1:]) if one + 1 < other]


def longest_by_cell(size, keep, kind):
    by_cell = {}
    for line in range(lines_of(size, kind)):
        for stroke in longest_strokes(size, keep, kind, line):
            for cell in stroke_cells(stroke):
                by_cell[cell] = stroke
    return by_cell


def crossings(size, away, keep):
    along_row = longest_by_cell(size, keep, ROW)
    along_column = longest_by_cell(size, keep, COLUMN)
    crossed = {}
    for cell in cells_of(size, away):
        crossed.setdefault(along_row[cell], []).append(along_column[cell])
    return crossed


def fewest_strokes(size, away, keep):
    both = cells_of(size, away & keep)
    if len(both) > 0:
        raise Kept(both[0][0], both[0][1])
    # Each cell of away is cut by its longest stroke along the row or by the one along the column; so each crossing
    # needs one of its two strokes, and crossings of which no two share a stroke need a stroke each.
    crossed = crossings(size, away, keep)
    column_of = most_pairs(crossed)
    short = short_of_givers(crossed, column_of)
    strokes = [stroke for stroke in crossed if stroke not in short[0]] + short[1]
    apart = set_of(size, [(along_column[1], along_row[1]) for along_row, along_column in column_of.items()])
    return (sorted(strokes), cells_of(size, apart))
