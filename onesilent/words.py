"""Words and lines of texts: numbers, and lines that are closed by line feeds."""

from onesilent.errors import BadText

DIGITS = "0123456789"
MOST_DIGITS = 12


def number_in(word):
    """Tell the number that a word is, None if it is none of few digits without a needless 0."""
    if not 1 <= len(word) <= MOST_DIGITS or not all([sign in DIGITS for sign in word]):
        return None
    return None if word[0] == "0" and word != "0" else int(word)


def numbers_in(words):
    """Tell the tuple of the numbers that words are, None if one of them is no number."""
    numbers = [number_in(word) for word in words]
    return None if None in numbers else tuple(numbers)


def words_of(numbers):
    """List the words of some numbers."""
    return [str(number) for number in numbers]


def line_of(words):
    """Tell the line of some words, closed."""
    return " ".join(words) + "\n"


def lines_in(text):
    """Tell the pair of the list of the closed lines of a text, and of what stands behind them."""
    if not isinstance(text, str):
        raise BadText(0)
    lines = text.split("\n")
    return lines[:-1], lines[-1]
