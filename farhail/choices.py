"""The choices of fewest looks of a tree, counted and numbered."""

from farhail.codes import things_of
from farhail.errors import NoSuch, NotOne
from farhail.trees import pieces_at, refuse_no_tree
from farhail.webs import neighbour_lists


def legs_at(web, fork, forks):
    """The legs of a fork: its pieces of whose places none is a fork."""
    return [piece for piece in pieces_at(web, fork) if not any([place in forks for place in piece])]


def spot_groups(web, kind):
    """Groups of lists of places: a choice has one look in each list of a group but one, and no others."""
    refuse_no_tree(web)
    if len(things_of(web, kind)) < 2:
        return []
    degrees = [len(places) for places in neighbour_lists(web)]
    ends = [place for place, degree in enumerate(degrees) if degree == 1]
    if kind == "all":
        # The empty list can have no look in it, so it is the one without, and the end has one.
        return [[[end], []] for end in ends]
    forks = [place for place, degree in enumerate(degrees) if degree > 2]
    if not forks:
        return [[[end] for end in ends]]
    groups = [legs_at(web, fork, forks) for fork in forks]
    return [legs for legs in groups if legs]


def spot_ways(spots, looks, start):
    """In how many ways a list of spots has one look in all, and in how many none."""
    held = len([spot for spot in spots if spot in looks])
    if held > 0:
        return (1 if held == 1 else 0, 0)
    return (len([spot for spot in spots if spot >= start]), 1)


def group_ways(group, looks, start):
    """In how many ways looks from start on fill a group up, beside the told looks, all ahead of start."""
    ways_full = 1
    ways_but_one = 0
    for spots in group:
        one, none = spot_ways(spots, looks, start)
        # Just one list has no look in it: this one, where all ahead of it have one, or one of those.
        ways_but_one = ways_but_one * one + ways_full * none
        ways_full = ways_full * one
    return ways_but_one


def ways_from(groups, looks, start):
    """How many choices have the told looks, which lie in the groups, and no others ahead of start."""
    ways = 1
    for group in groups:
        ways = ways * group_ways(group, looks, start)
    return ways


def spots_of(groups):
    """All places that some choice has a look at, rising."""
    return sorted([spot for group in groups for spots in group for spot in spots])


def tree_fewest(web, kind):
    """How many looks the choices of fewest looks of a tree have."""
    return sum([len(group) - 1 for group in spot_groups(web, kind)])


def tree_choices(web, kind):
    """How many choices of fewest looks a tree has."""
    return ways_from(spot_groups(web, kind), [], 0)


def choice_by(web, kind, number):
    """The choice of that number, from 0 on, in the order of lists."""
    groups = spot_groups(web, kind)
    if not 0 <= number < ways_from(groups, [], 0):
        raise NoSuch("no choice has this number")
    looks = []
    ahead = number
    for spot in spots_of(groups):
        # Those that go on with this spot come ahead of those that go on with a later one.
        ways = ways_from(groups, looks + [spot], spot + 1)
        if ahead < ways:
            looks.append(spot)
        else:
            ahead -= ways
    return looks


def is_choice(groups, looks, many):
    """Whether a list of whole numbers is one of the choices in a tree of so many places."""
    spots = spots_of(groups)
    if looks != sorted(set(looks)) or not all([look in spots for look in looks]):
        return False
    return ways_from(groups, looks, many) == 1


def choice_number(web, kind, looks):
    """The number of a choice, from 0 on, in the order of lists."""
    groups = spot_groups(web, kind)
    if not is_choice(groups, looks, web[0]):
        raise NotOne("the list is none of the choices")
    number = 0
    shared = []
    for spot in spots_of(groups):
        if spot in looks:
            shared.append(spot)
        else:
            number += ways_from(groups, shared + [spot], spot + 1)
    return number
