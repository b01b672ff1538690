"""Trees: webs with one tie less than places, whose pieces tell what looks know."""

from farhail.codes import likes_by, refuse_wrong_looks, things_of
from farhail.errors import NoTree
from farhail.webs import neighbour_lists, refuse_no_place


def is_tree(web):
    """Whether a web has one tie less than places."""
    many, ties = web
    return len(ties) == many - 1


def refuse_no_tree(web):
    """Refuses a web that is no tree."""
    if not is_tree(web):
        raise NoTree("the web is no tree")


def piece_behind(lists, place, neighbour):
    """The places of a tree to which one comes from a neighbour of a place without going by the place, rising."""
    piece = []
    steps = [(place, neighbour)]
    while steps:
        last, here = steps.pop()
        piece.append(here)
        # No ties of a tree lead round, so not turning back is enough never to come by a place again.
        steps += [(here, there) for there in lists[here] if there != last]
    return sorted(piece)


def pieces_at(web, place):
    """The pieces of a tree at a place, in the order of its neighbours."""
    refuse_no_tree(web)
    refuse_no_place(web, place)
    lists = neighbour_lists(web)
    return [piece_behind(lists, place, neighbour) for neighbour in lists[place]]


def tree_likes(web, looks, kind):
    """Two things of a kind that have one code by looks, None where the things of a tree are known."""
    refuse_no_tree(web)
    likes = likes_by(web, looks, kind)
    return (likes[0][0], likes[0][1]) if likes else None


def looks_in_pieces(web, looks, place):
    """How many looks the pieces at a place have in them, the fewest first."""
    return sorted([len([look for look in looks if look in piece]) for piece in pieces_at(web, place)])


def tree_strength(web, looks, kind):
    """The least number of looks that part two things of a kind, None where the kind has not two."""
    refuse_no_tree(web)
    refuse_wrong_looks(web, looks)
    if len(things_of(web, kind)) < 2:
        return None
    counts = [looks_in_pieces(web, looks, place) for place in range(web[0])]
    if kind == "all":
        return min([row[0] for row in counts])
    # Of two places alone neither has two pieces, and each look, being one of the two, parts them.
    return min([row[0] + row[1] for row in counts if len(row) > 1], default=len(looks))
