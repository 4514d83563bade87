"""Boards of cells, and sets of cells with the way they are written [1] to [3]."""

from lostblock.errors import NoSet

LONGEST_SIDE = 24
SIGN_IN = "#"
SIGN_OUT = "."


def is_whole(thing):
    return isinstance(thing, int) and not isinstance(thing, bool)


def place_of(size, cell):
    return cell[1] * size[0] + cell[0]


def has_cell(size, some, cell):
    return ((some >> place_of(size, cell)) & 1) == 1


def all_cells(size):
    return [(place % size[0], place // size[0]) for place in range(size[0] * size[1])]


def all_of(size):
    return (1 << (size[0] * size[1])) - 1


def set_of(size, cells):
    some = 0
    for cell in cells:
        # Not a sum: a cell that is told twice is in the set once.
        some = some | (1 << place_of(size, cell))
    return some


def cells_of(size, some):
    return [cell for cell in all_cells(size) if has_cell(size, some, cell)]


def within(one, other):
    return (one & other) == one


def shown_row(size, some, row):
    cells = [(column, row) for column in range(size[0])]
    return "".join([SIGN_IN if has_cell(size, some, cell) else SIGN_OUT for cell in cells])


def shown(size, some):
    return "\n".join([shown_row(size, some, row) for row in range(size[1])])


def can_stand(row, wide):
    if not 1 <= len(row) <= LONGEST_SIDE or len(row) != wide:
        return False
    return all([sign == SIGN_IN or sign == SIGN_OUT for sign in row])


def read(text):
    # Not splitlines: it would drop the row without signs behind a last line end.
    rows = text.split("\n")
    for number, row in enumerate(rows):
        if number == LONGEST_SIDE or not can_stand(row, len(rows[0])):
            raise NoSet(number)
    size = (len(rows[0]), len(rows))
    cells = [cell for cell in all_cells(size) if rows[cell[1]][cell[0]] == SIGN_IN]
    return (size, set_of(size, cells))
