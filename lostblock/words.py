"""Words: colours, names of inks and names of blocks [4]."""

LETTERS = "abcdefghijklmnopqrstuvwxyz"
LONGEST_WORD = 8


def is_word(text):
    if not isinstance(text, str) or not 1 <= len(text) <= LONGEST_WORD:
        return False
    return all([sign in LETTERS for sign in text])
