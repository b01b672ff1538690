"""The fewest looks of a strength, told with a tree of pairs that shows that one fewer never have it."""

from farhail.errors import TooMany
from farhail.pairs import every_looks, pairs_of, unlike_pairs

MOST_SEARCHED = 8


def fewest_looks(web, kind, strength):
    """("looks", looks, tree), or ("never", one, other) of two things that all places together part too seldom."""
    if web[0] > MOST_SEARCHED:
        raise TooMany(f"fewest looks are told of webs with at most {MOST_SEARCHED} places")
    # Pairs with the same parters ask the same of looks, so one of them speaks for all.
    pairs = unlike_pairs(pairs_of(web, kind))
    for one, other, parters in pairs:
        if len(parters) < strength:
            return ("never", one, other)
    looks = first_strong(pairs, strength, web[0])
    # No looks are fewer than none, so nothing is to be shown there.
    tree = made_tree(pairs, strength, len(looks) - 1, [], []) if looks else None
    return ("looks", looks, tree)


def count_in(parters, places):
    """How many of the parters are among the places."""
    return len([place for place in parters if place in places])


def weak_pairs(pairs, strength, places):
    """The pairs that are parted by fewer of the places than the strength."""
    return [pair for pair in pairs if count_in(pair[2], places) < strength]


def first_strong(pairs, strength, many):
    """Looks that have the strength, as few as any; all places together have it."""
    lists = every_looks(many)
    at = 0
    while weak_pairs(pairs, strength, lists[at]):
        at += 1
    return lists[at]


def made_tree(pairs, strength, many, ins, outs):
    """A tree for so many looks, which never have the strength, of the case with these places in and out."""

    def free_of(parters):
        return [place for place in parters if place not in ins and place not in outs]

    # The fewer parters are free, the fewer trees are to be told.
    one, other, parters_of_two = min(weak_pairs(pairs, strength, ins), key=lambda pair: len(free_of(pair[2])))
    if len(ins) == many:
        return (one, other, ())
    free = free_of(parters_of_two)
    trees = [
        made_tree(pairs, strength, many, ins + [place], outs + free[:at]) for at, place in enumerate(free)
    ]
    return (one, other, tuple(trees))
