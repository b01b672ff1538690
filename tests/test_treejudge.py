"""The judge of trees of pairs."""

import copy
import itertools
import random
import unittest

from farhail.fewest import fewest_looks
from farhail.treejudge import tree_shows
from tests.samples import (
    HUGE, KINDS, Trial, chance_web, grid, ring, row, slow_fars, slow_parters, slow_things, slow_tree_right,
    small_webs, star, two_sided, whole,
)


def chance_tree(table, things, strength, many, draw, ins=(), outs=()):
    """A tree made by any two things that are parted too seldom; None where there are none."""
    pairs = list(itertools.permutations(things, 2))
    draw.shuffle(pairs)
    for one, other in pairs:
        parters = slow_parters(table, one, other)
        if len(set(parters) & set(ins)) < strength:
            break
    else:
        return None
    if len(ins) == many:
        return (one, other, ())
    free = [place for place in parters if place not in ins + outs]
    trees = [chance_tree(table, things, strength, many, draw, ins + (place,), outs + tuple(free[:at]))
             for at, place in enumerate(free)]
    return None if None in trees else (one, other, tuple(trees))


def twin_tree(twins, many):
    """A tree for so many looks among as many twins and one more, at least."""
    one, other = twins[:2]
    if many == 0:
        return (one, other, ())
    return (one, other, (twin_tree(twins[1:], many - 1), one_out_tree(one, twins[2:], many - 1)))


def one_out_tree(out, twins, many):
    """A tree for so many looks where one twin is out: each of the others has to be in."""
    if many == 0:
        return (out, twins[0], ())
    return (out, twins[0], (one_out_tree(out, twins[1:], many - 1),))


def count_of(tree):
    return 1 + sum(count_of(branch) for branch in tree[2])


def spots_in(tree):
    """The ways to all trees in a tree, each a tuple of numbers."""
    spots = [()]
    for at, branch in enumerate(tree[2]):
        spots += [(at,) + spot for spot in spots_in(branch)]
    return spots


def at_spot(tree, spot):
    for at in spot:
        tree = tree[2][at]
    return tree


def changed(tree, spot, deed):
    """The tree with what deed makes of the one at the spot in its stead."""
    if not spot:
        return deed(tree)
    one, other, trees = tree
    branch = changed(trees[spot[0]], spot[1:], deed)
    return (one, other, trees[:spot[0]] + (branch,) + trees[spot[0] + 1:])


class TreeShowsTest(Trial):

    def assert_judged(self, web, kind, strength, many, tree, table):
        wished = slow_tree_right(table, slow_things(web, kind), strength, many, tree)
        self.assertIs(tree_shows(web, kind, strength, many, tree), wished, (web, kind, strength, many, tree))
        return wished

    def test_told_trees_for_their_numbers_alone(self):
        for web in small_webs():
            table = slow_fars(web)
            for kind in KINDS:
                for strength in (1, 2, 3, 5):
                    told = fewest_looks(web, kind, strength)
                    if told[0] == "looks" and told[2] is not None:
                        self.assertIs(tree_shows(web, kind, strength, len(told[1]) - 1, told[2]), True)
                        for many in range(9):
                            self.assert_judged(web, kind, strength, many, told[2], table)

    def test_trees_made_otherwise(self):
        draw = random.Random(1)
        right = 0
        for web in small_webs()[::2]:
            table = slow_fars(web)
            for kind in KINDS:
                for strength, many in ((1, 0), (1, 1), (1, 2), (2, 2), (2, 3), (3, 3), (9, 2)):
                    tree = chance_tree(table, slow_things(web, kind), strength, many, draw)
                    if tree is not None:
                        self.assertIs(tree_shows(web, kind, strength, many, tree), True)
                        right += 1
                        for other in (0, 1, 2, 3, 4, 8):
                            self.assert_judged(web, kind, strength, other, tree, table)
                        for other in range(1, 10):
                            self.assert_judged(web, kind, other, many, tree, table)
        self.assertGreater(right, 200)

    def test_great_webs(self):
        draw = random.Random(2)
        right = 0
        webs = [row(20), ring(12), whole(9), star(60), grid(3, 4), whole(20), two_sided(5, 6), chance_web(30, 30, 1)]
        for web in webs:
            table = slow_fars(web)
            for kind in KINDS:
                for strength, many in ((1, 0), (1, 1), (2, 1)):
                    tree = chance_tree(table, slow_things(web, kind), strength, many, draw)
                    if tree is not None:
                        self.assertIs(tree_shows(web, kind, strength, many, tree), True)
                        right += 1
                        for other in range(9):
                            self.assert_judged(web, kind, strength, other, tree, table)
        self.assertGreater(right, 50)

    def test_eight_looks(self):
        for web in (star(11), whole(10), star(60)):
            tree = twin_tree(list(range(web[0]))[-10:], 8)
            self.assertLess(count_of(tree), 300)
            for many in range(9):
                self.assertIs(tree_shows(web, "places", 1, many, tree), many == 8)
                # Two things that no place in parts are parted by fewer than 9 as well.
                self.assertIs(tree_shows(web, "places", 9, many, tree), many == 8)

    def test_never_where_places_run_out(self):
        # Two twins of whole(4) have two parters: with three asked for the tree ends there, for two looks or more.
        tree = (0, 1, ((0, 1, ((0, 1, ()),)), (0, 1, ())))
        for many in range(9):
            self.assertIs(tree_shows(whole(4), "places", 3, many, tree), many >= 2)
        self.assertIs(tree_shows(whole(4), "places", 2, 1, tree), False)
        self.assertIs(tree_shows(whole(4), "places", 2, 2, tree), False)

    def test_either_thing_first(self):
        self.assertIs(tree_shows(row(5), "places", 1, 0, (3, 1, ())), True)
        self.assertIs(tree_shows(row(5), "all", 1, 0, ((1, 2), 0, ())), True)
        self.assertIs(tree_shows(row(5), "all", 1, 0, (0, (1, 2), ())), True)

    def test_ordinary(self):
        rights = ((2, 3, ()), (1, 3, ())), ((2, 3, ()), (3, 4, ())), ((4, 2, ()), (4, 3, ()))
        for right in [(1, 2, trees) for trees in rights] + [(2, 1, trees) for trees in rights]:
            self.assertIs(tree_shows(star(5), "places", 1, 1, right), True)
        for wrong in (
            (1, 2, ()), (1, 2, ((2, 3, ()),)), (1, 2, ((3, 4, ()), (2, 3, ()))),
            (1, 2, ((2, 3, ()), (3, 4, ()), (3, 4, ()))),
            (1, 2, ((2, 3, ()), (3, 3, ()))), (1, 2, ((2, 3, ()), (3, 5, ()))), (1, 2, ((2, 3, ()), (3, -1, ()))),
            (1, 2, ((2, 3, ()), (3, (0, 1), ()))), (1, 2, ((2, 3, ()), (3, 4, ((3, 4, ()),)))),
            (0, 2, ((2, 3, ()), (3, 4, ()))),
        ):
            self.assertIs(tree_shows(star(5), "places", 1, 1, wrong), False, wrong)

    def test_wrong_things(self):
        for kind, right, wrongs in (
            ("places", (0, 2), ((0, 0), (0, 5), (-1, 0), (0, (0, 1)), ((0, 1), 2), ((0, 1), (1, 2)), (HUGE, 0))),
            ("ties", ((0, 1), (2, 3)), (
                ((0, 1), (0, 1)), ((1, 0), (2, 3)), ((0, 1), (3, 2)), (0, 2), (0, (0, 1)), ((0, 1), 4),
                ((0, 1), (0, 2)), ((0, 1), (4, 5)), ((0, 1), (1, 1)), ((0, HUGE), (1, 2)), ((-1, 0), (1, 2)))),
            ("all", (0, (2, 3)), (
                (0, 0), ((0, 1), (1, 0)), (0, (1, 0)), (5, 0), (0, -1), ((0, 2), 0), ((0, 1), (0, 1)))),
        ):
            self.assertIs(tree_shows(row(5), kind, 1, 0, right + ((),)), True)
            for one, other in wrongs:
                self.assertIs(tree_shows(row(5), kind, 1, 0, (one, other, ())), False, (one, other))
                self.assertIs(tree_shows(row(5), kind, 1, 0, (other, one, ())), False, (one, other))

    def test_wrong_in_each_way_at_each_spot(self):
        for web, kind, strength in ((ring(6), "places", 1), (star(6), "ties", 1), (row(5), "all", 1),
                                    (whole(5), "places", 2), (two_sided(2, 3), "all", 1)):
            table = slow_fars(web)
            looks, tree = fewest_looks(web, kind, strength)[1:]
            many = len(looks) - 1
            for spot in spots_in(tree):
                for wrong in self.wrong_ways(web, kind, at_spot(tree, spot), len(spot) < many):
                    made = changed(tree, spot, lambda here, wrong=wrong: wrong)
                    self.assertIs(tree_shows(web, kind, strength, many, made), False, (web, kind, made))
                    self.assertFalse(slow_tree_right(table, slow_things(web, kind), strength, many, made))

    def wrong_ways(self, web, kind, here, has_more):
        one, other, trees = here
        ways = [(one, one, trees), (other, other, trees), (web[0], other, trees)]
        ways += [(one, -1, trees), (one, (1, 0), trees)]
        ways += [((0, 1), other, trees)] if kind == "places" else []
        ways += [(0, other, trees)] if kind == "ties" else []
        ways += [(one, other, trees + ((one, other, ()),))]
        if has_more and trees:
            ways += [(one, other, ()), (one, other, trees[:-1])]
            ways += [(one, other, trees[1:]), (one, other, trees + trees[:1])]
        return ways

    def test_two_trees_exchanged_or_one_twice(self):
        draw = random.Random(4)
        refused = 0
        for web in small_webs()[::3]:
            table = slow_fars(web)
            for kind in KINDS:
                told = fewest_looks(web, kind, 1)
                if told[2] is None:
                    continue
                for spot in spots_in(told[2]):
                    trees = at_spot(told[2], spot)[2]
                    if len(trees) > 1:
                        at, to = draw.sample(range(len(trees)), 2)
                        for moved in ({at: trees[to], to: trees[at]}, {at: trees[to]}):
                            row_of = tuple(moved.get(k, branch) for k, branch in enumerate(trees))
                            made = changed(told[2], spot, lambda here, row_of=row_of: here[:2] + (row_of,))
                            judged = self.assert_judged(web, kind, 1, len(told[1]) - 1, made, table)
                            refused += not judged
        self.assertGreater(refused, 20)

    def test_parted_often_enough(self):
        # With place 1 in, places 1 and 2 are parted once: too often for 1, too seldom for 2.
        tree = (1, 2, ((1, 2, ()), (3, 4, ())))
        self.assertIs(tree_shows(star(5), "places", 1, 1, tree), False)
        self.assertIs(tree_shows(star(5), "places", 2, 1, tree), True)

    def test_nothing_to_show(self):
        for web, kind in (((1, ()), "places"), ((1, ()), "ties"), ((1, ()), "all"), (row(2), "ties")):
            tree = fewest_looks(web, kind, 1)[2]
            for many in range(9):
                self.assertIs(tree_shows(web, kind, 1, many, tree), False)
                self.assertIs(tree_shows(web, kind, 1, many, (0, 0, ())), False)
                self.assertIs(tree_shows(web, kind, 1, many, ((0, 1), (0, 1), ())), False)

    def test_what_is_handed_in_stays(self):
        tree = fewest_looks(ring(6), "all", 1)[2]
        kept = copy.deepcopy(tree)
        for turn in range(2):
            self.assertIs(tree_shows(ring(6), "all", 1, len(fewest_looks(ring(6), "all", 1)[1]) - 1, tree), True)
        self.assertEqual(tree, kept)


if __name__ == "__main__":
    unittest.main()
