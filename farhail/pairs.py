"""Each two things of a kind beside the places that part them, and the looks of a small web."""

from farhail.codes import far_rows, parters_by, things_of


def pairs_of(web, kind):
    """A tuple (one, other, parters) for each two things of a kind, the one ahead of the other in it."""
    rows = far_rows(web)
    things = things_of(web, kind)
    pairs = []
    for at, one in enumerate(things):
        pairs += [(one, other, parters_by(rows, one, other)) for other in things[at + 1:]]
    return pairs


def unlike_pairs(pairs):
    """Of all pairs that have the same parters the first one."""
    firsts = {}
    for one, other, parters in pairs:
        firsts.setdefault(tuple(parters), (one, other, parters))
    return list(firsts.values())


def every_looks(many):
    """All looks in a web of so many places, the fewest first."""
    lists = [[]]
    for place in range(many):
        lists = lists + [looks + [place] for looks in lists]
    return sorted(lists, key=len)
