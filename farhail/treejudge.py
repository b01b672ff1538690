"""The judge of trees of pairs, which show that so many looks never have a strength."""

from farhail.codes import far_rows, parters_by, things_of


def tree_shows(web, kind, strength, many, tree):
    """Whether a tree is one for so many looks of that strength."""
    # None is told for a tree where there is nothing to show, and it shows nothing.
    if tree is None:
        return False
    return case_shown(far_rows(web), things_of(web, kind), strength, many, tree, [], [])


def case_shown(rows, things, strength, many, tree, ins, outs):
    """Whether a tree is one of the case with these places in and out; the rows tell how far all places are."""
    one, other, trees = tree
    if one == other or one not in things or other not in things:
        return False
    parters = parters_by(rows, one, other)
    if len([place for place in parters if place in ins]) >= strength:
        return False
    if len(ins) == many:
        return trees == ()
    free = [place for place in parters if place not in ins and place not in outs]
    if len(trees) != len(free):
        return False
    return all([
        case_shown(rows, things, strength, many, branch, ins + [place], outs + free[:at])
        for at, (place, branch) in enumerate(zip(free, trees))
    ])
