"""The rows that a desk answers: how they are read, and which are refused before the desk does anything."""

from farhail.errors import NoRow
from farhail.texts import number_in
from farhail.webs import refuse_no_place

KINDS = ("places", "ties", "all")

# The first word of each row, and of what sort those behind it are.
FORMS = {
    "tie": ("place", "place"),
    "untie": ("place", "place"),
    "look": ("place",),
    "unlook": ("place",),
    "back": (),
    "show": (),
    "looks": (),
    "far": ("place", "place"),
    "known": ("kind",),
    "parters": ("thing", "thing"),
    "strength": ("kind",),
    "fewest": ("kind", "strength"),
    "heard": ("kind", "lies"),
    "asks": ("kind",),
    "hunt": ("many",),
}

# Numbers of these sorts go from 1 to what stands here.
GREATEST = {"strength": 9, "many": 3}


def thing_in(word):
    """The thing that a word writes, None where it writes none."""
    numbers = [number_in(part) for part in word.split("-")]
    if None in numbers or len(numbers) > 2:
        return None
    if len(numbers) == 1:
        return numbers[0]
    return (numbers[0], numbers[1]) if numbers[0] < numbers[1] else None


def thing_text(thing):
    """A thing, written."""
    return str(thing) if isinstance(thing, int) else f"{thing[0]}-{thing[1]}"


def is_of_sort(sort, word):
    """Whether a word tells something of that sort."""
    if sort == "kind":
        return word in KINDS
    if sort == "thing":
        return thing_in(word) is not None
    if sort == "answer" and word == "-":
        return True
    number = number_in(word)
    if number is None:
        return False
    return sort not in GREATEST or 1 <= number <= GREATEST[sort]


def told_by(sort, word):
    """What a word of that sort tells; None is a lost answer."""
    if sort == "kind":
        return word
    return thing_in(word) if sort == "thing" else number_in(word)


def sorts_of(words):
    """The sorts of the words behind the first one of a row; NoRow where there is no such row."""
    if words[0] not in FORMS:
        raise NoRow("no row begins with this word")
    sorts = list(FORMS[words[0]])
    if words[0] == "heard":
        sorts += ["answer"] * (len(words) - 1 - len(sorts))
    if len(sorts) != len(words) - 1:
        raise NoRow("a row has too many or too few words")
    return sorts


def read_row(row, web):
    """The first word of a row and the list of what the others tell; NoRow, NoPlace."""
    if not isinstance(row, str):
        raise NoRow("a row is a text")
    words = row.split(" ")
    sorts = sorts_of(words)
    if not all([is_of_sort(sort, word) for sort, word in zip(sorts, words[1:])]):
        raise NoRow("a word is not of the sort that stands there")
    told = [told_by(sort, word) for sort, word in zip(sorts, words[1:])]
    if words[0] == "parters" and told[0] == told[1]:
        raise NoRow("two like things have no parters")
    for sort, value in zip(sorts, told):
        refuse_no_places(web, sort, value)
    return (words[0], told)


def refuse_no_places(web, sort, value):
    """Refuses a number, alone or in a thing, that should be a place of the web and is none."""
    if sort == "thing" and isinstance(value, tuple):
        # The lesser end of a tie is a place where the greater one is.
        refuse_no_place(web, value[1])
    elif sort in ("thing", "place"):
        refuse_no_place(web, value)
