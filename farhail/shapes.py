"""Rows, rings and grids of any size, known at once."""

from farhail.errors import NoCode


def row_known(many, looks, kind):
    """Whether the things of a row of many places are known by looks."""
    if many == 1 or (many == 2 and kind == "ties"):
        return True
    ends = [look for look in looks if look == 0 or look == many - 1]
    if kind == "all":
        return len(ends) == 2
    return len(ends) > 0 or len(looks) > 1


def ring_steps(many, looks):
    """How far it is on from each look to the next one, going round."""
    return [(after - look) % many for look, after in zip(looks, looks[1:] + looks[:1])]


def ring_known(many, looks, kind):
    """Whether the things of a ring of many places are known by looks."""
    if kind == "all":
        return len(looks) > 2 and max(ring_steps(many, looks)) <= many // 2
    return len(looks) > 2 or (len(looks) == 2 and 2 * (looks[1] - looks[0]) != many)


def is_side_end(wide, high, place):
    """Whether a place of a grid is one where two sides end."""
    return place[0] in (0, wide - 1) and place[1] in (0, high - 1)


def grid_known(wide, high, one, other):
    """Whether the places of a grid are known by looks at two unlike places."""
    if not is_side_end(wide, high, one) or not is_side_end(wide, high, other):
        return False
    return one[0] == other[0] or one[1] == other[1]


def ring_far(many, one, other):
    """How far two places of a ring are."""
    on = (other - one) % many
    return min(on, many - on)


def ring_tie_far(many, place, tie):
    """How far a place of a ring is from the tie of that number."""
    return min(ring_far(many, place, tie), ring_far(many, place, tie + 1))


def ring_place(many, looks, told):
    """The place of a ring whose code by looks is told."""
    look, far = looks[0], told[0]
    for place in ((look + far) % many, (look - far) % many):
        if [ring_far(many, each, place) for each in looks] == told:
            return place
    raise NoCode("no place of the ring has this code")


def ring_tie(many, looks, told):
    """The number of the tie of a ring whose code by looks is told."""
    look, far = looks[0], told[0]
    # Going on from the look a tie's nearer end is its first one; going back it is its second one.
    for tie in ((look + far) % many, (look - far - 1) % many):
        if [ring_tie_far(many, each, tie) for each in looks] == told:
            return tie
    raise NoCode("no tie of the ring has this code")


def grid_far(one, other):
    """How far two places of a grid are."""
    return abs(one[0] - other[0]) + abs(one[1] - other[1])


def grid_place(wide, high, one, other, told):
    """The place of a grid whose code is told, by looks at the two ends of a side."""
    if one[0] != other[0]:
        # The side lies the other way: the grid is turned about, and what is found is turned back.
        y, x = grid_place(high, wide, (one[1], one[0]), (other[1], other[0]), told)
        return (x, y)
    # Each step away from the side is told by both looks, each step along it by one more and by one less.
    away = (told[0] + told[1] - (high - 1)) // 2
    along = told[0] - away
    x = away if one[0] == 0 else wide - 1 - away
    y = along if one[1] == 0 else high - 1 - along
    if not (0 <= x < wide and 0 <= y < high) or [grid_far(one, (x, y)), grid_far(other, (x, y))] != told:
        raise NoCode("no place of the grid has this code")
    return (x, y)


def ring_choices(many, kind):
    """How many choices of fewest looks a ring has."""
    pairs = many * (many - 1) // 2
    if kind != "all":
        return pairs if many % 2 else pairs - many // 2
    # Three looks fail where just one step is too long, from whichever place it goes. The shortest such step leaves
    # to the others most + 1 together, which are parted into two in most ways, each longer one in one way less.
    most = many - many // 2 - 2
    return pairs * (many - 2) // 3 - many * (most * (most + 1) // 2)
