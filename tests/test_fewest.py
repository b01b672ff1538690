"""The fewest looks of a strength, and the tree beside them."""

import copy
import itertools
import unittest

from farhail.errors import TooMany
from farhail.fewest import fewest_looks
from farhail.heard import most_strength, strength_of
from farhail.webs import made_web
from tests.samples import (
    KINDS, Trial, all_webs, chance_web, grid, ring, row, slow_fars, slow_parters, slow_things, slow_tree_right,
    small_webs, star, two_sided, whole,
)


def parter_sets(table, things):
    return {frozenset(slow_parters(table, one, other)) for one, other in itertools.combinations(things, 2)}


def slow_fewest(many, parted, strength):
    """How many looks have a strength, all sets of places tried; None where none have."""
    for count in range(many + 1):
        for looks in itertools.combinations(range(many), count):
            if all(len(parters.intersection(looks)) >= strength for parters in parted):
                return count
    return None


class FewestTest(Trial):

    def assert_right(self, web, kind, strength):
        table, things = slow_fars(web), slow_things(web, kind)
        parted = parter_sets(table, things)
        told = fewest_looks(web, kind, strength)
        self.assertIs(type(told), tuple)
        self.assertEqual(len(told), 3)
        count = slow_fewest(web[0], parted, strength)
        if count is None:
            word, one, other = told
            self.assertEqual(word, "never", (web, kind, strength))
            self.assertLess(things.index(one), things.index(other))
            self.assertLess(len(slow_parters(table, one, other)), strength)
        else:
            word, looks, tree = told
            self.assertEqual(word, "looks", (web, kind, strength))
            self.assert_looks(web, parted, strength, looks, count)
            self.assert_tree(table, things, strength, count, tree)
        self.assertEqual(fewest_looks(web, kind, strength), told)

    def assert_looks(self, web, parted, strength, looks, count):
        self.assertIs(type(looks), list)
        self.assertEqual(looks, sorted(set(looks)))
        self.assertTrue(set(looks) <= set(range(web[0])))
        self.assertEqual(len(looks), count)
        self.assertTrue(all(len(parters.intersection(looks)) >= strength for parters in parted))

    def assert_tree(self, table, things, strength, count, tree):
        if len(things) < 2:
            self.assertEqual(count, 0)
            self.assertIsNone(tree)
            return
        self.assertTrue(slow_tree_right(table, things, strength, count - 1, tree), (table, strength, tree))
        self.assertEqual(self.formed(tree), tree)

    def formed(self, tree):
        """The same tree, where it is formed of tuples as told."""
        self.assertIs(type(tree), tuple)
        one, other, trees = tree
        self.assertIs(type(trees), tuple)
        return (one, other, tuple(self.formed(branch) for branch in trees))

    def test_each_strength_on_all_webs_of_one_to_four_places(self):
        for web in [web for many in range(1, 5) for web in all_webs(many)]:
            for kind in KINDS:
                for strength in range(1, 10):
                    self.assert_right(web, kind, strength)

    def test_webs_of_five_to_eight_places(self):
        for web in small_webs():
            if web[0] > 4:
                for kind in KINDS:
                    for strength in (1, 2, 3, 4, 6, 9):
                        self.assert_right(web, kind, strength)

    def test_all_strengths_of_eight_places(self):
        for web in (row(8), ring(8), whole(8), star(8), grid(2, 4), two_sided(4, 4), chance_web(8, 3, 3)):
            for kind in KINDS:
                for strength in range(1, 10):
                    self.assert_right(web, kind, strength)

    def test_ordinary(self):
        self.assertEqual(len(fewest_looks(ring(7), "places", 1)[1]), 2)
        self.assertEqual(fewest_looks(row(5), "all", 1)[:2], ("looks", [0, 4]))
        self.assertEqual(len(fewest_looks(whole(8), "places", 1)[1]), 7)
        self.assertEqual(fewest_looks(whole(8), "places", 2)[1], list(range(8)))
        self.assertEqual(fewest_looks(whole(8), "places", 3)[0], "never")
        self.assertEqual(len(fewest_looks(star(8), "ties", 1)[1]), 6)
        self.assertEqual(len(fewest_looks(row(8), "places", 7)[1]), 8)
        self.assertEqual(fewest_looks(row(8), "places", 8)[0], "never")

    def test_a_tree_for_no_looks(self):
        one, other, trees = fewest_looks(row(8), "places", 1)[2]
        self.assertNotEqual(one, other)
        self.assertEqual(trees, ())

    def test_less_than_two_things(self):
        for strength in range(1, 10):
            for kind in KINDS:
                self.assertEqual(fewest_looks((1, ()), kind, strength), ("looks", [], None))
            self.assertEqual(fewest_looks(row(2), "ties", strength), ("looks", [], None))

    def test_two_places(self):
        self.assertEqual(len(fewest_looks(row(2), "places", 1)[1]), 1)
        self.assertEqual(fewest_looks(row(2), "places", 2)[1], [0, 1])
        self.assertEqual(fewest_looks(row(2), "places", 3), ("never", 0, 1))
        self.assertEqual(fewest_looks(row(2), "all", 1)[1], [0, 1])
        self.assertIn(fewest_looks(row(2), "all", 2), (("never", 0, (0, 1)), ("never", 1, (0, 1))))

    def test_a_strength_of_1_is_always_had(self):
        for web in small_webs():
            for kind in KINDS:
                self.assertEqual(fewest_looks(web, kind, 1)[0], "looks")

    def test_never_just_above_the_strength_of_all_places(self):
        for web in small_webs():
            for kind in KINDS:
                most = most_strength(web, kind)
                if most is not None:
                    word, looks, tree = fewest_looks(web, kind, most)
                    self.assertEqual(word, "looks")
                    self.assertGreaterEqual(strength_of(web, looks, kind), most)
                    self.assertEqual(fewest_looks(web, kind, most + 1)[0], "never")

    def test_too_many_from_nine_places_on(self):
        for web in (row(9), ring(9), star(9), whole(9), grid(3, 3), row(10), whole(20), chance_web(60, 99, 1)):
            for kind in KINDS:
                for strength in (1, 5, 9):
                    self.assert_refused(TooMany, fewest_looks, web, kind, strength)

    def test_what_is_told_is_the_askers_own(self):
        for web in (row(6), ring(8), made_web(7, [(0, at) for at in range(1, 7)])):
            for kind in KINDS:
                before = copy.deepcopy(web)
                told = fewest_looks(web, kind, 1)
                kept = copy.deepcopy(told)
                self.assert_own(told)
                told[1].append(99)
                told[1].reverse()
                self.assertEqual(fewest_looks(web, kind, 1), kept)
                self.assertEqual(web, before)


if __name__ == "__main__":
    unittest.main()
