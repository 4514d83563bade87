"""Pictures, and the way they are written [9]."""

from lostblock.boards import LONGEST_SIDE
from lostblock.errors import NoPicture
from lostblock.words import is_word


def size_of(picture):
    return (len(picture[0]), len(picture))


def can_stand(colours, wide):
    if len(colours) > LONGEST_SIDE or len(colours) != wide:
        return False
    return all([is_word(colour) for colour in colours])


def read_picture(text):
    # Not splitlines: it would drop the row without signs behind a last line end.
    picture = [row.split(" ") for row in text.split("\n")]
    for number, colours in enumerate(picture):
        if number == LONGEST_SIDE or not can_stand(colours, len(picture[0])):
            raise NoPicture(number)
    return picture


def shown_picture(picture):
    return "\n".join([" ".join(colours) for colours in picture])
