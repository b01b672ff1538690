"""Webs: places that ties join, and how far they are from each other."""

from farhail.errors import Apart, NoPlace, NoThing, NoWeb

MOST_PLACES = 60


def made_web(many, ties):
    """The web of so many places, joined by ties in any order, either end first."""
    if not 1 <= many <= MOST_PLACES:
        raise NoWeb(f"a web has from 1 to {MOST_PLACES} places")
    web = (many, tuple(sorted_ties(many, ties)))
    fars = fars_or_none(web, 0)
    if None in fars:
        raise Apart(fars.index(None))
    return web


def sorted_ties(many, ties):
    """The ties, lesser end first, in order; NoWeb where one is none or is told twice."""
    told = set()
    for one, other in ties:
        tie = (min(one, other), max(one, other))
        # No refusal shows the number that was handed in: Python won't write one of thousands of digits.
        if tie[0] < 0 or tie[1] >= many:
            raise NoWeb("a tie has an end that is no place")
        if one == other:
            raise NoWeb("a tie has two like ends")
        if tie in told:
            raise NoWeb("a tie is told twice")
        told.add(tie)
    return sorted(told)


def neighbour_lists(web):
    """For each place the list of its neighbours, rising."""
    many, ties = web
    lists = [[] for place in range(many)]
    # The ties are sorted, so a place's lesser neighbours come ahead of its greater ones, each in order.
    for one, other in ties:
        lists[one].append(other)
        lists[other].append(one)
    return lists


def fars_or_none(web, place):
    """For each place how far it is from this one, None where no ties lead to it."""
    lists = neighbour_lists(web)
    fars = [None] * web[0]
    fars[place] = 0
    edge = [place]
    while edge:
        reached = []
        for here in edge:
            for there in lists[here]:
                if fars[there] is None:
                    fars[there] = fars[here] + 1
                    reached.append(there)
        edge = reached
    return fars


def refuse_no_place(web, place):
    """Refuses a whole number that is no place of the web."""
    if not 0 <= place < web[0]:
        raise NoPlace("a number is no place of the web")


def neighbours_of(web, place):
    """The neighbours of a place, rising."""
    refuse_no_place(web, place)
    return neighbour_lists(web)[place]


def fars_from(web, place):
    """For each place, in order, how far it is from this one."""
    refuse_no_place(web, place)
    return fars_or_none(web, place)


def far_between(web, one, other):
    """How far two places are."""
    refuse_no_place(web, one)
    refuse_no_place(web, other)
    return fars_from(web, one)[other]


def nearer_end(fars, tie):
    """How far a tie is from the place that the fars are told from."""
    return min(fars[tie[0]], fars[tie[1]])


def tie_far(web, place, tie):
    """How far a place is from a tie, told as it stands in the web."""
    refuse_no_place(web, place)
    if tie not in web[1]:
        raise NoThing("a pair is no tie of the web")
    return nearer_end(fars_from(web, place), tie)


def rounds_of(web, place):
    """The lists of the places that are 0, 1, 2, .. far from a place."""
    fars = fars_from(web, place)
    rounds = [[] for far in range(max(fars) + 1)]
    for where, far in enumerate(fars):
        rounds[far].append(where)
    return rounds
