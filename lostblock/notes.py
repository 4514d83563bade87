"""Plans as they are written [18]."""

from lostblock.errors import NoPlan
from lostblock.plans import CUT, PRINT
from lostblock.strokes import is_stroke

FIGURES = "0123456789"
MOST_FIGURES = 3


def number_of(text):
    if not 1 <= len(text) <= MOST_FIGURES or not all([sign in FIGURES for sign in text]):
        return None
    if len(text) > 1 and text[0] == "0":
        return None
    return int(text)


def stroke_of(words):
    # A word that is no number stands as None in the tuple, which is no stroke then.
    stroke = tuple(words[:1] + [number_of(word) for word in words[1:]])
    return stroke if is_stroke(stroke) else None


def deed_of(row):
    words = row.split(" ")
    if len(words) < 3:
        return None
    block = number_of(words[1])
    told = None
    if words[0] == CUT:
        told = stroke_of(words[2:])
    elif words[0] == PRINT and len(words) == 3:
        told = number_of(words[2])
    if block is None or told is None:
        return None
    return (words[0], block, told)


def read_plan(text):
    if text == "":
        return []
    # Not splitlines: it would drop the row without signs behind a last line end.
    plan = [deed_of(row) for row in text.split("\n")]
    for number, deed in enumerate(plan):
        if deed is None:
            raise NoPlan(number)
    return plan


def shown_deed(deed):
    if deed[0] == PRINT:
        return " ".join([PRINT, str(deed[1]), str(deed[2])])
    stroke = deed[2]
    return " ".join([CUT, str(deed[1]), stroke[0]] + [str(number) for number in stroke[1:]])


def shown_plan(plan):
    return "\n".join([shown_deed(deed) for deed in plan])
