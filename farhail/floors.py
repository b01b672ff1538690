"""Floors: lots of things that show how many looks are needed at least."""

from farhail.codes import far_rows, thing_far, things_of
from farhail.webs import neighbour_lists


def are_twins(lists, one, other):
    """Whether no place but two unlike places themselves parts them, by the lists of neighbours."""
    # All ways to a place go by its neighbours: where these are alike, nothing else is nearer to one of the two.
    return [place for place in lists[one] if place != other] == [place for place in lists[other] if place != one]


def twins_of(web):
    """The rising lists of two or more places that are twins, in the order of their first places."""
    lists = neighbour_lists(web)
    groups = []
    for place in range(web[0]):
        # The twins of a place are twins of each other, so a group's first place speaks for all of it.
        homes = [group for group in groups if are_twins(lists, group[0], place)]
        if homes:
            homes[0].append(place)
        else:
            groups.append([place])
    return [group for group in groups if len(group) > 1]


def is_lot(things, twins, lot):
    """Whether a list is a lot: two unlike ones of the things, or three or more places that are all twins."""
    if len(lot) < 2 or len(set(lot)) < len(lot):
        return False
    if not all([thing in things for thing in lot]):
        return False
    return len(lot) == 2 or any([all([thing in group for thing in lot]) for group in twins])


def lot_parters(rows, lot):
    """The places that part two things of a lot; the rows tell how far all places are from each one."""
    return [place for place, fars in enumerate(rows) if len({thing_far(fars, thing) for thing in lot}) > 1]


def floor_height(web, kind, lots):
    """The height of a floor for a kind, None where the lots are no floor."""
    things = things_of(web, kind)
    twins = twins_of(web)
    rows = far_rows(web)
    taken = set()
    height = 0
    for lot in lots:
        if not is_lot(things, twins, lot):
            return None
        for place in lot_parters(rows, lot):
            if place in taken:
                return None
            taken.add(place)
        height += len(lot) - 1
    return height
