"""What the modules tell of one web agrees."""

import unittest

from farhail.asks import fewest_asks, plan_asks, table_shows
from farhail.choices import choice_by, tree_choices, tree_fewest
from farhail.codes import is_known
from farhail.desk import Desk
from farhail.fewest import fewest_looks
from farhail.floors import floor_height, twins_of
from farhail.heard import fitting_things, most_strength, strength_of
from farhail.hunts import hunt_judged, hunt_or_shelter, shelter_judged
from farhail.shapes import ring_choices, ring_known, row_known
from farhail.shares import shares_judged, shares_of
from farhail.texts import read_web, web_text
from farhail.treejudge import tree_shows
from farhail.trees import is_tree, tree_strength
from tests.samples import KINDS, Trial, all_looks, ring, row, slow_things, small_trees, small_webs


class WholeTest(Trial):

    def test_fewest_looks_know_and_no_fewer_do(self):
        for web in small_webs():
            for kind in KINDS:
                word, looks, tree = fewest_looks(web, kind, 1)
                self.assertTrue(is_known(web, looks, kind))
                if looks:
                    self.assertTrue(tree_shows(web, kind, 1, len(looks) - 1, tree))
                    fewer = [other for other in all_looks(web[0]) if len(other) == len(looks) - 1]
                    self.assertFalse(any(is_known(web, other, kind) for other in fewer))

    def test_trees_by_their_pieces_and_by_search(self):
        for web in small_trees():
            self.assertTrue(is_tree(web))
            for kind in KINDS:
                if web[0] < 9:
                    self.assertEqual(len(fewest_looks(web, kind, 1)[1]), tree_fewest(web, kind))
                self.assertEqual(most_strength(web, kind), tree_strength(web, list(range(web[0])), kind))
                self.assertTrue(is_known(web, choice_by(web, kind, tree_choices(web, kind) - 1), kind))

    def test_rows_and_rings_at_once_and_by_search(self):
        for many in range(1, 9):
            for kind in KINDS:
                looks = fewest_looks(row(many), kind, 1)[1]
                self.assertTrue(row_known(many, looks, kind))
                self.assertEqual(len(looks), tree_fewest(row(many), kind))
        for many in range(3, 9):
            for kind in KINDS:
                looks = fewest_looks(ring(many), kind, 1)[1]
                self.assertTrue(ring_known(many, looks, kind))
                every = [other for other in all_looks(many) if len(other) == len(looks)]
                known = [other for other in every if is_known(ring(many), other, kind)]
                self.assertEqual(len(known), ring_choices(many, kind))

    def test_floors_shares_and_fewest_looks_stand_above_one_another(self):
        for web in small_webs():
            if web[0] < 8:
                for kind in KINDS:
                    bottom, shares, prices = shares_of(web, kind)
                    fewest = len(fewest_looks(web, kind, 1)[1])
                    self.assertTrue(shares_judged(web, kind, bottom, shares, prices))
                    self.assertLessEqual(sum(shares), fewest * bottom)
                self.assertLessEqual(floor_height(web, "places", twins_of(web)), len(fewest_looks(web, "places", 1)[1]))

    def test_no_more_asks_than_fewest_looks(self):
        for web in small_webs():
            for kind in KINDS:
                if web[0] < 8 and 1 <= len(slow_things(web, kind)) <= 8:
                    asks, plan, table = fewest_asks(web, kind)
                    self.assertLessEqual(asks, len(fewest_looks(web, kind, 1)[1]))
                    self.assertEqual(plan_asks(web, kind, plan), asks)
                    self.assertTrue(table_shows(web, kind, asks, table))
                    self.assertFalse(table_shows(web, kind, asks + 1, table))

    def test_found_at_once_just_where_so_many_looks_know_the_places(self):
        for web in small_webs():
            if 2 <= web[0] <= 7:
                for many in (1, 2, 3):
                    word, told = hunt_or_shelter(web, many)
                    at_once = word == "hunt" and min(line[2] for line in told if len(line[0]) == web[0]) == 1
                    self.assertIs(at_once, len(fewest_looks(web, "places", 1)[1]) <= many)
                    self.assertTrue((hunt_judged if word == "hunt" else shelter_judged)(web, many, told))

    def test_looks_of_a_strength_find_things_where_answers_are_lost_or_lies(self):
        for web in small_webs():
            for kind in KINDS:
                for strength in (2, 3):
                    told = fewest_looks(web, kind, strength)
                    things = slow_things(web, kind)
                    if told[0] == "looks" and len(things) > 1:
                        self.assertGreaterEqual(strength_of(web, told[1], kind), strength)
                        lost = [None] * (strength - 1) + [0] * (len(told[1]) - strength + 1)
                        self.assertLessEqual(len(fitting_things(web, told[1], kind, lost, 0)), 1)

    def test_a_desk_tells_the_same(self):
        for web in small_webs()[::3]:
            desk = Desk(web_text(web))
            self.assertEqual(read_web(desk.say("show")), web)
            for kind in KINDS:
                looks = fewest_looks(web, kind, 1)[1]
                self.assertEqual(desk.say(f"fewest {kind} 1"), f"fewest {len(looks)}")
                for look in looks:
                    self.assertEqual(desk.say(f"look {look}"), "ok")
                self.assertEqual(desk.say(f"known {kind}"), "yes")
                for look in looks:
                    self.assertEqual(desk.say("back"), "ok")
                self.assertEqual(desk.say("looks"), "looks")


if __name__ == "__main__":
    unittest.main()
