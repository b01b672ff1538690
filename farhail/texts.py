"""Webs written as texts, and read."""

from farhail.errors import NoText
from farhail.webs import made_web

FIGURES = "0123456789"
MOST_FIGURES = 3


def number_in(word):
    """The number that a word writes by at most three figures, None where it writes none."""
    if not 1 <= len(word) <= MOST_FIGURES or not all([sign in FIGURES for sign in word]):
        return None
    if word[0] == "0" and word != "0":
        return None
    return int(word)


def web_text(web):
    """The rows of a web, parted by line ends."""
    many, ties = web
    return "\n".join([f"places {many}"] + [f"tie {one} {other}" for one, other in ties])


def row_numbers(at, row):
    """The numbers of the row that stands at that number in a text; NoText where it is no such row."""
    word, *others = row.split(" ")
    numbers = [number_in(other) for other in others]
    wished = ("places", 1) if at == 0 else ("tie", 2)
    if (word, len(numbers)) != wished or None in numbers:
        raise NoText(at)
    return numbers


def read_web(text):
    """The web that a text writes, ties in any order, either end first."""
    rows = [row_numbers(at, row) for at, row in enumerate(text.split("\n"))]
    return made_web(rows[0][0], [(one, other) for one, other in rows[1:]])
