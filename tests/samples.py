"""Webs to try the program on, slow answers to hold it against, and a check of refusals."""

import itertools
import random
import unittest

from farhail import errors

KINDS = ("places", "ties", "all")
HUGE = 10 ** 5000


def row(many):
    return (many, tuple((at, at + 1) for at in range(many - 1)))


def ring(many):
    return (many, tuple(sorted(row(many)[1] + ((0, many - 1),))))


def star(many):
    return (many, tuple((0, at) for at in range(1, many)))


def whole(many):
    return (many, tuple(itertools.combinations(range(many), 2)))


def grid(wide, high):
    ties = [(x * high + y, x * high + y + 1) for x in range(wide) for y in range(high - 1)]
    ties += [(x * high + y, x * high + high + y) for x in range(wide - 1) for y in range(high)]
    return (wide * high, tuple(sorted(ties)))


def two_sided(left, right):
    return (left + right, tuple((one, left + other) for one in range(left) for other in range(right)))


def chance_web(many, more, seed):
    """A tree drawn by a seed, with at most so many ties more; the same each time."""
    draw = random.Random(seed)
    names = list(range(many))
    draw.shuffle(names)
    ties = {tuple(sorted((names[at], names[draw.randrange(at)]))) for at in range(1, many)}
    for turn in range(more):
        one, other = draw.randrange(many), draw.randrange(many)
        if one != other:
            ties.add((min(one, other), max(one, other)))
    return (many, tuple(sorted(ties)))


def holds_together(web):
    many, ties = web
    reached = {0}
    for turn in range(many):
        for one, other in ties:
            if one in reached or other in reached:
                reached |= {one, other}
    return len(reached) == many


def all_webs(many):
    """Every web of so many places."""
    pairs = list(itertools.combinations(range(many), 2))
    for count in range(many - 1, len(pairs) + 1):
        for ties in itertools.combinations(pairs, count):
            if holds_together((many, ties)):
                yield (many, ties)


def all_trees(many):
    """Every tree of so many places."""
    pairs = itertools.combinations(range(many), 2)
    return [(many, ties) for ties in itertools.combinations(pairs, many - 1) if holds_together((many, ties))]


def spider(legs):
    """A tree with a fork, place 0, and a leg of each told length."""
    ties = []
    many = 1
    for leg in legs:
        ties += [(0 if at == 0 else many + at - 1, many + at) for at in range(leg)]
        many += leg
    return (many, tuple(sorted(ties)))


def renamed(web, seed):
    """The same web with its places called otherwise, drawn by a seed; the same each time."""
    many, ties = web
    names = list(range(many))
    random.Random(seed).shuffle(names)
    return (many, tuple(sorted(tuple(sorted((names[one], names[other]))) for one, other in ties)))


def small_trees():
    """All trees of one to five places, and some of more."""
    trees = [tree for many in range(1, 6) for tree in all_trees(many)]
    trees += [chance_web(many, 0, 10 * many + seed) for many in (6, 7, 8, 9) for seed in range(6)]
    trees += [renamed(spider(legs), at) for at, legs in enumerate(((1, 1, 1, 1), (3, 2, 1), (2, 2, 2), (4, 3)))]
    return trees + [row(8), star(8), renamed(row(7), 1), renamed(star(7), 1)]


def great_trees():
    """Trees of 40 to 60 places."""
    trees = [row(60), star(60), renamed(row(60), 1), renamed(star(60), 2), spider((3,) * 19 + (2,))]
    return trees + [chance_web(many, 0, many) for many in (40, 50, 58, 59, 60)]


def sample_webs():
    """Webs of every sort, small and great."""
    webs = [web for many in range(1, 5) for web in all_webs(many)]
    webs += [row(many) for many in (5, 8, 60)] + [ring(many) for many in (5, 6, 7, 8, 60)]
    webs += [star(many) for many in (5, 9, 60)] + [whole(5), whole(8), whole(20)]
    webs += [grid(2, 3), grid(3, 3), grid(4, 5), two_sided(2, 3), two_sided(3, 4)]
    webs += [chance_web(many, 0, many) for many in (6, 11, 24, 40)]
    webs += [chance_web(many, more, many) for many, more in ((6, 3), (9, 9), (13, 5), (25, 40))]
    return webs + [chance_web(60, 0, 1), chance_web(60, 140, 2)]


def slow_fars(web):
    """A table of how far each two places are, by trying each place as one on the way."""
    many, ties = web
    table = [[0 if one == other else many for other in range(many)] for one in range(many)]
    for one, other in ties:
        table[one][other] = table[other][one] = 1
    for way in range(many):
        for one in range(many):
            for other in range(many):
                table[one][other] = min(table[one][other], table[one][way] + table[way][other])
    return table


def slow_far(table, place, thing):
    """How far a place is from a thing, by such a table."""
    if type(thing) is int:
        return table[place][thing]
    return min(table[place][end] for end in thing)


def slow_things(web, kind):
    many, ties = web
    return {"places": list(range(many)), "ties": list(ties), "all": list(range(many)) + list(ties)}[kind]


def slow_code(table, looks, thing):
    return [slow_far(table, look, thing) for look in looks]


def slow_known(table, looks, things):
    """Whether the things are known by looks: all codes are unlike."""
    return len({tuple(slow_code(table, looks, thing)) for thing in things}) == len(things)


def slow_parters(table, one, other):
    return [place for place in range(len(table)) if slow_far(table, place, one) != slow_far(table, place, other)]


def slow_strength(table, looks, things):
    """The least number of looks that part two of the things; None where there are not two."""
    pairs = itertools.combinations(things, 2)
    return min((len(set(looks) & set(slow_parters(table, one, other))) for one, other in pairs), default=None)


def all_looks(many):
    """All looks in a web of so many places, the fewest first, those of one length in the order of lists."""
    return [list(looks) for count in range(many + 1) for looks in itertools.combinations(range(many), count)]


def chance_looks(web, seed):
    """Some places of a web, rising, drawn by a seed; the same each time."""
    draw = random.Random(seed)
    return sorted(draw.sample(range(web[0]), draw.randint(0, min(web[0], 6))))


def slow_tree_right(table, things, strength, many, tree, ins=(), outs=()):
    """Whether a tree of pairs is one for so many looks, of the case with these places in and out."""
    one, other, trees = tree
    if one not in things or other not in things or one == other:
        return False
    parters = slow_parters(table, one, other)
    if len(set(parters) & set(ins)) >= strength:
        return False
    if len(ins) == many:
        return len(trees) == 0
    free = sorted(set(parters) - set(ins) - set(outs))
    if len(free) != len(trees):
        return False
    cases = [(ins + (place,), outs + tuple(free[:at])) for at, place in enumerate(free)]
    return all(slow_tree_right(table, things, strength, many, *case) for case in
               [(branch,) + case for branch, case in zip(trees, cases)])


def small_webs():
    """Webs of every sort with one to eight places, all of them of one to four."""
    webs = [web for many in range(1, 5) for web in all_webs(many)]
    webs += list(all_webs(5))[::29] + all_trees(5)[::11] + all_trees(6)[::131]
    webs += [shape(many) for shape in (row, ring, star, whole) for many in (5, 6, 7, 8)]
    webs += [grid(2, 3), grid(2, 4), two_sided(2, 3), two_sided(3, 4), two_sided(4, 4), two_sided(2, 6)]
    webs += [spider((2, 2, 1)), spider((2, 2, 3)), renamed(spider((1, 2, 3)), 4), renamed(row(8), 3)]
    return webs + [chance_web(many, more, 7 * many + more) for many in (6, 7, 8) for more in (0, 1, 2, 4, 9, 20)]


def list_parts(told):
    """What is told, if it is a list, and all lists in it."""
    parts = [told] if type(told) is list else []
    if type(told) in (list, tuple):
        for part in told:
            parts += list_parts(part)
    return parts


class Trial(unittest.TestCase):
    """A test that can ask for a refusal of just one class."""

    def assert_refused(self, refusal, deed, *handed):
        with self.assertRaises(errors.HailError) as caught:
            deed(*handed)
        self.assertIs(type(caught.exception), refusal)
        self.assertIsInstance(caught.exception, ValueError)
        return caught.exception

    def assert_own(self, told):
        """Asks that no two lists in what is told are one and the same."""
        found = list_parts(told)
        self.assertEqual(len({id(part) for part in found}), len(found))
