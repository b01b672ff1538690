"""Trees, their pieces, and what looks know and part in them."""

import copy
import random
import unittest

from farhail.errors import NoLooks, NoPlace, NoTree
from farhail.trees import is_tree, pieces_at, tree_likes, tree_strength
from farhail.webs import made_web
from tests.samples import (
    HUGE, KINDS, Trial, all_looks, all_trees, chance_web, great_trees, grid, renamed, ring, row, sample_webs,
    slow_code, slow_fars, slow_known, slow_strength, slow_things, small_trees, spider, star, two_sided, whole,
)

NO_TREES = (ring(3), ring(4), ring(60), whole(4), grid(2, 2), two_sided(2, 3), chance_web(9, 9, 1),
            made_web(4, [(0, 1), (1, 2), (2, 0), (2, 3)]))


def wrong_looks(many):
    return ([1, 0], [0, 2, 1], [0, 0], [1, 2, 2], [-1], [-1, 0], [0, many], [many], [HUGE], [-HUGE, 0], [2, -1])


class IsTreeTest(Trial):

    def test_trees(self):
        for web in small_trees() + great_trees():
            self.assertIs(is_tree(web), True)

    def test_webs_with_ties_more(self):
        for web in NO_TREES:
            self.assertIs(is_tree(web), False)
        for web in small_trees():
            for one, other in [(0, at) for at in range(1, web[0])]:
                if (one, other) not in web[1]:
                    self.assertIs(is_tree(made_web(web[0], list(web[1]) + [(one, other)])), False)

    def test_by_the_count_of_ties(self):
        for web in sample_webs():
            self.assertIs(is_tree(web), len(web[1]) == web[0] - 1)


class PiecesTest(Trial):

    def test_one_place_alone(self):
        self.assertEqual(pieces_at((1, ()), 0), [])

    def test_ordinary(self):
        tree = made_web(7, [(3, 5), (5, 0), (5, 6), (3, 1), (1, 4), (2, 4)])
        self.assertEqual(pieces_at(tree, 5), [[0], [1, 2, 3, 4], [6]])
        self.assertEqual(pieces_at(tree, 3), [[1, 2, 4], [0, 5, 6]])
        self.assertEqual(pieces_at(tree, 0), [[1, 2, 3, 4, 5, 6]])
        self.assertEqual(pieces_at(row(2), 1), [[0]])
        self.assertEqual(pieces_at(star(60), 0), [[at] for at in range(1, 60)])
        self.assertEqual(pieces_at(row(60), 20), [list(range(20)), list(range(21, 60))])

    def test_all_by_what_a_piece_is(self):
        for web in small_trees() + great_trees():
            table = slow_fars(web)
            for place in range(web[0]):
                neighbours = [at for at in range(web[0]) if table[place][at] == 1]
                # One comes from the neighbour without going by the place to all that are nearer to the neighbour.
                wished = [[at for at in range(web[0]) if table[near][at] < table[place][at]] for near in neighbours]
                self.assertEqual(pieces_at(web, place), wished)

    def test_no_place(self):
        for web in ((1, ()), row(2), star(6), row(60)):
            for place in (-1, -2, -web[0], web[0], web[0] + 1, 60, 100, HUGE, -HUGE):
                self.assert_refused(NoPlace, pieces_at, web, place)

    def test_no_tree_goes_first(self):
        for web in NO_TREES:
            for place in (0, 1, -1, web[0], HUGE):
                self.assert_refused(NoTree, pieces_at, web, place)

    def test_new_lists_each_time(self):
        told = pieces_at(star(6), 0)
        self.assert_own(told)
        for piece in told:
            piece.append(9)
        told.clear()
        self.assertEqual(pieces_at(star(6), 0), [[1], [2], [3], [4], [5]])


class LikesTest(Trial):

    def assert_likes(self, web, looks, kind, table):
        things = slow_things(web, kind)
        before = list(looks)
        told = tree_likes(web, looks, kind)
        self.assertEqual(looks, before)
        if slow_known(table, looks, things):
            self.assertIsNone(told, (web, looks, kind))
            return
        self.assertIs(type(told), tuple)
        one, other = told
        self.assertTrue(one in things and other in things and one != other, (web, looks, kind, told))
        self.assertEqual(slow_code(table, looks, one), slow_code(table, looks, other), (web, looks, kind, told))
        self.assertEqual(tree_likes(web, looks, kind), told)

    def test_one_place(self):
        for looks in ([], [0]):
            for kind in KINDS:
                self.assertIsNone(tree_likes((1, ()), looks, kind))

    def test_two_places(self):
        for looks in ([0], [1], [0, 1]):
            self.assertIsNone(tree_likes(row(2), looks, "places"))
            self.assertIsNone(tree_likes(row(2), looks, "ties"))
        self.assertEqual(sorted(tree_likes(row(2), [], "places")), [0, 1])
        self.assertIsNone(tree_likes(row(2), [], "ties"))
        self.assertIsNone(tree_likes(row(2), [0, 1], "all"))
        self.assertIn(tree_likes(row(2), [0], "all"), ((0, (0, 1)), ((0, 1), 0)))
        self.assertIn(tree_likes(row(2), [1], "all"), ((1, (0, 1)), ((0, 1), 1)))

    def test_three_places(self):
        self.assertIsNone(tree_likes(row(3), [0], "places"))
        self.assertIsNone(tree_likes(row(3), [2], "ties"))
        self.assertEqual(sorted(tree_likes(row(3), [1], "places")), [0, 2])
        self.assertEqual(sorted(tree_likes(row(3), [1], "ties")), [(0, 1), (1, 2)])
        self.assertIsNone(tree_likes(row(3), [0, 2], "all"))

    def test_all_looks_of_small_trees(self):
        for web in small_trees():
            if web[0] < 8:
                table = slow_fars(web)
                for looks in all_looks(web[0]):
                    for kind in KINDS:
                        self.assert_likes(web, looks, kind, table)

    def test_by_the_pieces(self):
        for many in (2, 3, 4, 5, 6):
            for web in all_trees(many)[::7]:
                pieces = [pieces_at(web, place) for place in range(many)]
                for looks in all_looks(many):
                    bare = [[piece for piece in row if not set(piece) & set(looks)] for row in pieces]
                    self.assertIs(tree_likes(web, looks, "all") is None, not any(bare))
                    if many > 2:
                        known = all(len(row) < 2 for row in bare)
                        self.assertIs(tree_likes(web, looks, "places") is None, known)
                        self.assertIs(tree_likes(web, looks, "ties") is None, known)

    def test_great_trees(self):
        draw = random.Random(3)
        for web in great_trees():
            table = slow_fars(web)
            ends = [place for place in range(web[0]) if table[place].count(1) == 1]
            chosen = [sorted(draw.sample(range(web[0]), count)) for count in (1, 5, 20)]
            for looks in [[], list(range(web[0])), ends, ends[1:], ends[:-1]] + chosen:
                for kind in KINDS:
                    self.assert_likes(web, looks, kind, table)

    def test_refusals(self):
        for web in ((1, ()), row(5), star(6), row(60)):
            for looks in wrong_looks(web[0]):
                before = list(looks)
                for kind in KINDS:
                    self.assert_refused(NoLooks, tree_likes, web, looks, kind)
                self.assertEqual(looks, before)
        for web in NO_TREES:
            for looks in [[], [0], [0, 1, 2]] + list(wrong_looks(web[0])):
                for kind in KINDS:
                    self.assert_refused(NoTree, tree_likes, web, looks, kind)


class StrengthTest(Trial):

    def assert_strength(self, web, looks, kind, wished):
        before = list(looks)
        told = tree_strength(web, looks, kind)
        self.assertEqual(told, wished, (web, looks, kind))
        self.assertIs(type(told), type(wished))
        self.assertEqual(looks, before)

    def test_one_place(self):
        for looks in ([], [0]):
            for kind in KINDS:
                self.assert_strength((1, ()), looks, kind, None)

    def test_two_places(self):
        for looks, places, every in (([], 0, 0), ([0], 1, 0), ([1], 1, 0), ([0, 1], 2, 1)):
            self.assert_strength(row(2), looks, "places", places)
            self.assert_strength(row(2), looks, "ties", None)
            self.assert_strength(row(2), looks, "all", every)

    def test_no_looks_and_all_places(self):
        for many in (3, 10, 60):
            for kind in KINDS:
                self.assert_strength(row(many), [], kind, 0)
                self.assert_strength(star(many), [], kind, 0)
            places = list(range(many))
            self.assert_strength(row(many), places, "places", many - 1)
            self.assert_strength(row(many), places, "ties", many - 1)
            self.assert_strength(row(many), places, "all", 1)
            self.assert_strength(star(many), places, "places", 2)
            self.assert_strength(star(many), places, "ties", 2)
            self.assert_strength(star(many), places, "all", 1)

    def test_ordinary(self):
        tree = spider((3, 2, 2))
        self.assert_strength(tree, [1, 2, 3, 4, 5, 6, 7], "places", 4)
        self.assert_strength(tree, [2, 3, 4, 6, 7], "ties", 3)
        self.assert_strength(tree, [3, 5, 7], "all", 1)
        self.assert_strength(tree, [3, 5, 6], "all", 0)

    def test_all_looks_of_small_trees(self):
        for web in small_trees():
            if web[0] < 7:
                table = slow_fars(web)
                for looks in all_looks(web[0]):
                    for kind in KINDS:
                        wished = slow_strength(table, looks, slow_things(web, kind))
                        self.assert_strength(web, looks, kind, wished)

    def test_greater_trees(self):
        draw = random.Random(5)
        for web in [chance_web(many, 0, many) for many in range(8, 22)] + [renamed(spider((4, 4, 3, 2, 5)), 1)]:
            table = slow_fars(web)
            for count in (1, 3, web[0] // 2, web[0] - 1, web[0]):
                looks = sorted(draw.sample(range(web[0]), count))
                for kind in KINDS:
                    self.assert_strength(web, looks, kind, slow_strength(table, looks, slow_things(web, kind)))

    def test_sixty_places(self):
        for web in (chance_web(60, 0, 60), renamed(row(60), 1)):
            table = slow_fars(web)
            for looks in (list(range(60)), list(range(0, 60, 2)), list(range(3, 60, 7))):
                for kind in KINDS:
                    self.assert_strength(web, looks, kind, slow_strength(table, looks, slow_things(web, kind)))

    def test_known_just_where_it_is_not_0(self):
        for web in small_trees():
            for looks in all_looks(web[0])[::5]:
                for kind in KINDS:
                    strength = tree_strength(web, looks, kind)
                    self.assertIs(strength != 0, tree_likes(web, looks, kind) is None)

    def test_refusals(self):
        for web in ((1, ()), row(2), row(5), star(6), row(60)):
            for looks in wrong_looks(web[0]):
                before = list(looks)
                for kind in KINDS:
                    self.assert_refused(NoLooks, tree_strength, web, looks, kind)
                self.assertEqual(looks, before)
        for web in NO_TREES:
            for looks in [[], [0], [0, 1, 2]] + list(wrong_looks(web[0])):
                for kind in KINDS:
                    self.assert_refused(NoTree, tree_strength, web, looks, kind)

    def test_asked_again_after_a_refusal(self):
        web, looks = spider((2, 2, 1)), [2, 4]
        kept = copy.deepcopy((tree_strength(web, looks, "all"), tree_likes(web, looks, "all"), pieces_at(web, 0)))
        self.assert_refused(NoLooks, tree_strength, web, [4, 2], "all")
        self.assert_refused(NoPlace, pieces_at, web, 9)
        self.assertEqual((tree_strength(web, looks, "all"), tree_likes(web, looks, "all"), pieces_at(web, 0)), kept)


if __name__ == "__main__":
    unittest.main()
