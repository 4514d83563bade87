"""Benches of inks, and the way they are written [6], [7]."""

from lostblock.errors import NoBench
from lostblock.inks import COVER, GLAZE
from lostblock.words import is_word

PAPER = "paper"
MOST_INKS = 8
MOST_PAIRS = 8


def paper_of(row):
    words = row.split(" ")
    if len(words) == 2 and words[0] == PAPER and is_word(words[1]):
        return words[1]
    return None


def pairs_of(words):
    pairs = [(words[place], words[place + 1]) for place in range(0, len(words) - 1, 2)]
    unders = dict(pairs)
    # A dict keeps one of two alike unders, so fewer of them tell that two were alike.
    if len(words) % 2 == 1 or not 1 <= len(pairs) <= MOST_PAIRS or len(unders) < len(pairs):
        return None
    return tuple(pairs)


def glaze_of(words):
    pairs = pairs_of(words[2:])
    if pairs is None:
        return None
    return (GLAZE, words[1], pairs)


def ink_of(row):
    words = row.split(" ")
    if not all([is_word(word) for word in words]):
        return None
    if words[0] == COVER and len(words) == 3:
        return (COVER, words[1], words[2])
    if words[0] == GLAZE:
        return glaze_of(words)
    return None


def number_of_ink(inks, name):
    for number, ink in enumerate(inks):
        if ink[1] == name:
            return number
    return None


def read_inks(rows):
    inks = []
    for number, row in enumerate(rows, start=1):
        ink = ink_of(row)
        if ink is None or len(inks) == MOST_INKS or number_of_ink(inks, ink[1]) is not None:
            raise NoBench(number)
        inks.append(ink)
    return inks


def read_bench(text):
    # Not splitlines: it would drop the row without signs behind a last line end.
    rows = text.split("\n")
    paper = paper_of(rows[0])
    if paper is None:
        raise NoBench(0)
    if len(rows) == 1:
        raise NoBench(1)
    return (paper, read_inks(rows[1:]))


def shown_ink(ink):
    words = [ink[0], ink[1]]
    if ink[0] == COVER:
        words.append(ink[2])
    else:
        for under, over in ink[2]:
            words.append(under)
            words.append(over)
    return " ".join(words)


def shown_bench(bench):
    return "\n".join([" ".join([PAPER, bench[0]])] + [shown_ink(ink) for ink in bench[1]])
