"""How strong looks are, and which things fit what is heard."""

import copy
import itertools
import random
import unittest

from farhail.errors import NoLooks, NotHeard
from farhail.heard import fitting_things, most_strength, strength_of
from farhail.trees import is_tree, tree_strength
from tests.samples import (
    HUGE, KINDS, Trial, all_looks, all_webs, chance_looks, chance_web, great_trees, grid, ring, row, sample_webs,
    slow_code, slow_fars, slow_strength, slow_things, small_trees, small_webs, star, whole,
)

ALONE = (1, ())
FAR = 10 ** 18


def wrong_looks(many):
    return ([1, 0], [0, 2, 1], [0, 0], [1, 2, 2], [-1], [-1, 0], [0, many], [many], [HUGE], [-HUGE, 0], [2, -1])


def slow_fits(table, looks, things, heard, lies):
    fits = []
    for thing in things:
        told = slow_code(table, looks, thing)
        wrong = sum(1 for at in range(len(looks)) if heard[at] is not None and heard[at] != told[at])
        if wrong <= lies:
            fits.append(thing)
    return fits


def chance_heard(code, draw):
    """A code of which some answers are lost and some are others."""
    heard = list(code)
    for at in range(len(heard)):
        turn = draw.randrange(6)
        if turn == 0:
            heard[at] = None
        elif turn == 1:
            heard[at] = draw.choice((0, 1, 2, 7, 999, FAR))
    return heard


class StrengthTest(Trial):

    def assert_strength(self, web, looks, kind, wished):
        before = list(looks)
        told = strength_of(web, looks, kind)
        self.assertEqual(told, wished, (web, looks, kind))
        self.assertIs(type(told), type(wished))
        self.assertEqual(looks, before)
        self.assertEqual(strength_of(web, looks, kind), told)

    def test_ordinary(self):
        self.assert_strength(ring(6), [0, 1, 2], "places", 2)
        self.assert_strength(ring(6), [0, 3], "places", 0)
        self.assert_strength(whole(5), [0, 1, 2, 3, 4], "places", 2)
        self.assert_strength(whole(5), [0, 1, 2, 3, 4], "ties", 2)
        self.assert_strength(whole(5), [0, 1, 2, 3, 4], "all", 1)
        self.assert_strength(grid(2, 3), [0, 2], "places", 1)

    def test_not_two_things(self):
        for looks in ([], [0]):
            for kind in KINDS:
                self.assert_strength(ALONE, looks, kind, None)
        for looks in ([], [0], [1], [0, 1]):
            self.assert_strength(row(2), looks, "ties", None)
        for kind in KINDS:
            self.assertIsNone(most_strength(ALONE, kind))
        self.assertIsNone(most_strength(row(2), "ties"))

    def test_all_looks_of_small_webs(self):
        for web in [web for many in range(1, 5) for web in all_webs(many)] + [ring(5), star(5), whole(5), grid(2, 3)]:
            table = slow_fars(web)
            for looks in all_looks(web[0]):
                for kind in KINDS:
                    self.assert_strength(web, looks, kind, slow_strength(table, looks, slow_things(web, kind)))

    def test_no_looks_and_all_places(self):
        for web in small_webs():
            table = slow_fars(web)
            for kind in KINDS:
                things = slow_things(web, kind)
                places = list(range(web[0]))
                self.assert_strength(web, [], kind, 0 if len(things) > 1 else None)
                self.assert_strength(web, places, kind, slow_strength(table, places, things))
                self.assertEqual(most_strength(web, kind), slow_strength(table, places, things))

    def test_twenty_four_places(self):
        for web in (ring(24), grid(4, 6), chance_web(24, 0, 1), chance_web(24, 12, 2), chance_web(24, 80, 3)):
            table = slow_fars(web)
            for kind in KINDS:
                things = slow_things(web, kind)
                for looks in ([0], list(range(0, 24, 3)), list(range(24))):
                    self.assert_strength(web, looks, kind, slow_strength(table, looks, things))
                self.assertEqual(most_strength(web, kind), slow_strength(table, list(range(24)), things))

    def test_most_of_shapes_told_one_by_one(self):
        self.assertEqual([most_strength(row(24), kind) for kind in KINDS], [23, 23, 1])
        self.assertEqual([most_strength(star(24), kind) for kind in KINDS], [2, 2, 1])
        self.assertEqual([most_strength(whole(8), kind) for kind in KINDS], [2, 2, 1])
        self.assertEqual([most_strength(ring(24), kind) for kind in ("places", "ties")], [22, 22])

    def test_trees_as_their_pieces_tell_it(self):
        for at, web in enumerate(small_trees() + great_trees()):
            self.assertTrue(is_tree(web))
            for looks in (chance_looks(web, at), chance_looks(web, at + 500), list(range(web[0]))):
                for kind in KINDS:
                    self.assert_strength(web, looks, kind, tree_strength(web, looks, kind))

    def test_refusals(self):
        for web in (ALONE, row(5), ring(6), star(24)):
            for looks in wrong_looks(web[0]):
                before = list(looks)
                for kind in KINDS:
                    self.assert_refused(NoLooks, strength_of, web, looks, kind)
                self.assertEqual(looks, before)


class FittingTest(Trial):

    def assert_fits(self, web, looks, kind, heard, lies, wished):
        before = copy.deepcopy((looks, heard))
        told = fitting_things(web, looks, kind, heard, lies)
        self.assertEqual(told, wished, (web, looks, kind, heard, lies))
        self.assertIs(type(told), list)
        self.assertEqual((looks, heard), before)

    def test_ordinary(self):
        self.assert_fits(row(5), [0, 4], "places", [1, 3], 0, [1])
        self.assert_fits(row(5), [0, 4], "all", [1, 2], 0, [(1, 2)])
        self.assert_fits(row(5), [0, 4], "places", [1, 2], 0, [])
        self.assert_fits(row(5), [0, 4], "places", [1, 2], 1, [1, 2])
        self.assert_fits(row(5), [0, 4], "places", [1, 2], 2, [0, 1, 2, 3, 4])
        self.assert_fits(row(5), [0, 4], "places", [None, 2], 0, [2])
        self.assert_fits(row(5), [0, 4], "ties", [1, None], 0, [(1, 2)])
        self.assert_fits(row(5), [0, 4], "ties", [None, None], 0, [(0, 1), (1, 2), (2, 3), (3, 4)])
        self.assert_fits(ring(4), [0], "all", [1], 0, [1, 3, (1, 2), (2, 3)])

    def test_no_looks_and_nothing_heard(self):
        for web in small_webs() + [ring(60), star(60)]:
            for kind in KINDS:
                for lies in (0, 1, FAR):
                    self.assert_fits(web, [], kind, [], lies, slow_things(web, kind))

    def test_nought_is_an_answer_and_not_a_lost_one(self):
        self.assert_fits(row(3), [0, 1], "places", [0, None], 0, [0])
        self.assert_fits(row(3), [0, 1], "places", [0, 0], 0, [])
        self.assert_fits(row(3), [0, 1], "places", [0, 0], 1, [0, 1])

    def test_great_answers_and_lies(self):
        self.assert_fits(row(5), [0, 2, 4], "places", [FAR, FAR, FAR], 2, [])
        self.assert_fits(row(5), [0, 2, 4], "places", [FAR, FAR, FAR], 3, [0, 1, 2, 3, 4])
        self.assert_fits(row(5), [0, 2, 4], "places", [FAR, 1, 1], 1, [3])
        self.assert_fits(row(5), [0, 2, 4], "places", [FAR, None, FAR], 2, [0, 1, 2, 3, 4])
        self.assert_fits(row(5), [0, 2, 4], "ties", [5, 5, 5], FAR, [(0, 1), (1, 2), (2, 3), (3, 4)])
        self.assert_fits(ALONE, [0], "places", [FAR], 0, [])
        self.assert_fits(ALONE, [0], "places", [FAR], 1, [0])
        self.assert_fits(ALONE, [0], "ties", [0], FAR, [])

    def test_all_answers_of_small_webs(self):
        for web in [web for many in range(1, 4) for web in all_webs(many)] + [ring(4), star(4)]:
            table = slow_fars(web)
            for looks in all_looks(web[0]):
                for heard in itertools.product((None, 0, 1, 2), repeat=len(looks)):
                    for lies in range(len(looks) + 1):
                        for kind in KINDS:
                            wished = slow_fits(table, looks, slow_things(web, kind), list(heard), lies)
                            self.assert_fits(web, looks, kind, list(heard), lies, wished)

    def test_webs_of_every_sort_to_sixty_places(self):
        draw = random.Random(6)
        for at, web in enumerate(sample_webs()):
            table = slow_fars(web)
            for looks in (chance_looks(web, at + 900), list(range(web[0]))):
                for kind in KINDS:
                    things = slow_things(web, kind)
                    for thing in draw.sample(things, min(2, len(things))):
                        heard = chance_heard(slow_code(table, looks, thing), draw)
                        for lies in (0, 1, 2, len(looks) // 3, FAR):
                            wished = slow_fits(table, looks, things, heard, lies)
                            self.assert_fits(web, looks, kind, heard, lies, wished)

    def test_found_where_the_strength_is_above_what_is_lost_and_twice_the_lies(self):
        draw = random.Random(7)
        tried = 0
        for web in [ring(9), ring(14), grid(3, 4), row(12), chance_web(12, 6, 1), chance_web(20, 20, 2)]:
            table = slow_fars(web)
            for kind in KINDS:
                things = slow_things(web, kind)
                looks = list(range(web[0]))
                strength = strength_of(web, looks, kind)
                pairs = [(lost, lies) for lost in range(6) for lies in range(5) if lost + 2 * lies < strength]
                for lost, lies in pairs:
                    thing = draw.choice(things)
                    heard = slow_code(table, looks, thing)
                    spots = draw.sample(looks, lost + lies)
                    for at in spots[:lost]:
                        heard[at] = None
                    for at in spots[lost:]:
                        heard[at] = draw.choice([far for far in (0, 1, 2, 3, FAR) if far != heard[at]])
                    self.assert_fits(web, looks, kind, heard, lies, [thing])
                    tried += 1
        self.assertGreater(tried, 50)

    def test_not_heard(self):
        for web in (ALONE, row(5), ring(60)):
            for looks, heard in (([], [0]), ([], [None]), ([0], []), ([0], [0, 0]), ([0], [None, 0])):
                for kind in KINDS:
                    for lies in (0, 5, FAR):
                        before = copy.deepcopy((looks, heard))
                        self.assert_refused(NotHeard, fitting_things, web, looks, kind, heard, lies)
                        self.assertEqual((looks, heard), before)
        self.assert_refused(NotHeard, fitting_things, row(5), [0, 1, 2], "all", [0, 1], 9)
        self.assert_refused(NotHeard, fitting_things, row(5), [0, 1, 2], "all", [0, 1, 1, 1], 9)

    def test_no_looks_goes_ahead_of_not_heard(self):
        for web in (ALONE, row(5), ring(60)):
            for looks in wrong_looks(web[0]):
                for heard in ([], [0] * len(looks), [None] * (len(looks) + 1), [0] * 9):
                    for kind in KINDS:
                        before = copy.deepcopy((looks, heard))
                        self.assert_refused(NoLooks, fitting_things, web, looks, kind, heard, 0)
                        self.assertEqual((looks, heard), before)

    def test_new_lists(self):
        web, looks, heard = ring(6), [0, 1], [2, None]
        for kind in KINDS:
            kept = fitting_things(web, looks, kind, heard, 0)
            told = fitting_things(web, looks, kind, heard, 0)
            told.append("more")
            told.reverse()
            self.assertEqual(fitting_things(web, looks, kind, heard, 0), kept)
        self.assertEqual((web, looks, heard), (ring(6), [0, 1], [2, None]))


if __name__ == "__main__":
    unittest.main()
