"""Words: numbers as they are written."""

FIGURES = "0123456789"


def is_number(word, most):
    """Whether a word is written by at most so many figures, the first no 0 of several."""
    if not 1 <= len(word) <= most or not all([sign in FIGURES for sign in word]):
        return False
    return word == "0" or word[0] != "0"
