"""Figures: integers that are written in decimals."""

MOST_FIGURES = 30
FIGURES = "0123456789"


def whole_of(text):
    """Return the integer that a text is: an optional minus and 1 to 30 figures; None if it is none.

    There is no 0 ahead of others, and no minus ahead of 0.
    """
    figures = text[1:] if text.startswith("-") else text
    if not 1 <= len(figures) <= MOST_FIGURES or not all([sign in FIGURES for sign in figures]):
        return None
    if figures.startswith("0") and text != "0":
        return None
    return int(text)
