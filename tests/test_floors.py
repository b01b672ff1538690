"""Twins, and floors of lots."""

import copy
import itertools
import random
import unittest

from farhail.floors import floor_height, twins_of
from farhail.webs import made_web
from tests.samples import (
    HUGE, KINDS, Trial, all_looks, all_webs, chance_web, grid, renamed, ring, row, sample_webs, slow_fars, slow_known,
    slow_parters, slow_things, star, two_sided, whole,
)

# Two bunches of ends whose places lie between each other, at 6 and at 7, and three joined twins, 8, 9 and 10.
BUNCHES = made_web(11, [
    (0, 6), (3, 6), (5, 6), (1, 7), (2, 7), (4, 7), (6, 7), (7, 8), (7, 9), (7, 10), (8, 9), (8, 10), (9, 10)])


def slow_twins(web):
    table = slow_fars(web)
    groups = []
    for place in range(web[0]):
        others = [at for at in range(web[0]) if at != place]
        group = sorted([place] + [at for at in others if slow_parters(table, place, at) == sorted((place, at))])
        if len(group) > 1 and group not in groups:
            groups.append(group)
    return groups


def slow_height(web, kind, lots):
    """The height of a floor, None where lots are none, by each word of what a floor is."""
    table = slow_fars(web)
    things = slow_things(web, kind)
    parters = []
    for lot in lots:
        if len(lot) < 2 or any(thing not in things for thing in lot):
            return None
        pairs = list(itertools.combinations(lot, 2))
        if any(one == other for one, other in pairs):
            return None
        if len(lot) > 2 and any(type(thing) is tuple for thing in lot):
            return None
        if len(lot) > 2 and any(slow_parters(table, *pair) != sorted(pair) for pair in pairs):
            return None
        parters.append({place for pair in pairs for place in slow_parters(table, *pair)})
    if any(one & other for one, other in itertools.combinations(parters, 2)):
        return None
    return sum(len(lot) - 1 for lot in lots)


class TwinsTest(Trial):

    def test_webs_without_twins(self):
        for web in (row(1), row(4), row(5), row(60), ring(5), ring(60), grid(2, 3), grid(4, 5)):
            self.assertEqual(twins_of(web), [])

    def test_one_place_two_places_three(self):
        self.assertEqual(twins_of((1, ())), [])
        self.assertEqual(twins_of((2, ((0, 1),))), [[0, 1]])
        self.assertEqual(twins_of(row(3)), [[0, 2]])
        self.assertEqual(twins_of(whole(3)), [[0, 1, 2]])

    def test_stars_and_whole_webs(self):
        for many in (4, 9, 60):
            self.assertEqual(twins_of(star(many)), [list(range(1, many))])
        for many in (4, 7, 20):
            self.assertEqual(twins_of(whole(many)), [list(range(many))])

    def test_bunches(self):
        self.assertEqual(twins_of(BUNCHES), [[0, 3, 5], [1, 2, 4], [8, 9, 10]])
        self.assertEqual(twins_of(ring(4)), [[0, 2], [1, 3]])
        self.assertEqual(twins_of(two_sided(2, 3)), [[0, 1], [2, 3, 4]])
        self.assertEqual(twins_of(made_web(5, [(4, 3), (3, 2), (2, 0), (2, 1)])), [[0, 1]])
        self.assertEqual(twins_of(made_web(4, [(0, 1), (1, 2), (2, 0), (2, 3)])), [[0, 1]])

    def test_all_by_who_parts_them(self):
        webs = sample_webs() + list(all_webs(5)) + [renamed(BUNCHES, seed) for seed in range(5)]
        webs += [renamed(two_sided(4, 6), 3), renamed(star(60), 4), chance_web(60, 0, 9), chance_web(60, 30, 10)]
        for web in webs:
            self.assertEqual(twins_of(web), slow_twins(web))

    def test_new_lists_each_time(self):
        for web in (BUNCHES, star(5), whole(4)):
            told = twins_of(web)
            self.assert_own(told)
            kept = copy.deepcopy(told)
            for group in told:
                group.clear()
            told.append([7])
            self.assertEqual(twins_of(web), kept)


class HeightTest(Trial):

    def test_no_lots(self):
        for web in ((1, ()), (2, ((0, 1),)), row(5), star(60)):
            for kind in KINDS:
                height = floor_height(web, kind, [])
                self.assertEqual(height, 0)
                self.assertIs(type(height), int)

    def test_lots_of_two(self):
        self.assertEqual(floor_height(row(2), "places", [[0, 1]]), 1)
        self.assertEqual(floor_height(row(2), "places", [[1, 0]]), 1)
        self.assertEqual(floor_height(row(3), "places", [[0, 2]]), 1)
        self.assertEqual(floor_height(row(3), "ties", [[(1, 2), (0, 1)]]), 1)
        self.assertEqual(floor_height(row(2), "all", [[0, (0, 1)], [(0, 1), 1]]), 2)
        self.assertEqual(floor_height(star(5), "places", [[1, 4], [2, 3]]), 2)
        self.assertEqual(floor_height(star(5), "ties", [[(0, 1), (0, 4)], [(0, 3), (0, 2)]]), 2)
        self.assertEqual(floor_height(ring(4), "places", [[1, 3], [0, 2]]), 2)

    def test_a_thing_may_be_in_two_lots(self):
        ends = [[0, (0, end)] for end in range(1, 60)]
        self.assertEqual(floor_height(star(60), "all", ends), 59)

    def test_lots_of_twins(self):
        self.assertEqual(floor_height(star(4), "places", [[1, 2, 3]]), 2)
        self.assertEqual(floor_height(star(60), "places", [list(range(59, 0, -1))]), 58)
        self.assertEqual(floor_height(star(60), "all", [list(range(1, 60))]), 58)
        self.assertEqual(floor_height(whole(20), "places", [list(range(20))]), 19)
        self.assertEqual(floor_height(whole(20), "places", [list(range(7)), list(range(7, 18)), [19, 18]]), 17)
        self.assertEqual(floor_height(BUNCHES, "places", [[5, 0, 3], [1, 4, 2], [10, 8, 9]]), 6)
        self.assertEqual(floor_height(BUNCHES, "all", [[5, 0, 3], [1, 4], [10, 8, 9]]), 5)

    def assert_none(self, web, kind, *wrongs):
        for wrong in wrongs:
            for lots in ([wrong], [[1, 2], wrong], [wrong, [1, 2]]):
                kept = copy.deepcopy(lots)
                self.assertIsNone(floor_height(web, kind, lots), (web, kind, lots))
                self.assertEqual(lots, kept)

    def test_a_lot_of_one_thing_or_of_none(self):
        self.assert_none(star(6), "places", [], [3], [0])
        self.assertIsNone(floor_height(star(6), "ties", [[(0, 1)]]))
        self.assertIsNone(floor_height((1, ()), "ties", [[]]))
        self.assertIsNone(floor_height((1, ()), "places", [[0]]))

    def test_a_thing_twice_in_a_lot(self):
        self.assert_none(star(6), "places", [3, 3], [3, 3, 4], [3, 4, 5, 4], [0, 0])
        self.assertIsNone(floor_height(star(6), "ties", [[(0, 1), (0, 1)]]))
        self.assertIsNone(floor_height((1, ()), "all", [[0, 0]]))

    def test_a_thing_of_another_kind(self):
        web = star(6)
        self.assert_none(web, "places", [(0, 3), (0, 4)], [3, (0, 4)], [(0, 4), 3], [3, 4, (0, 5)])
        for wrong in ([3, 4], [3, (0, 4)], [(0, 4), 3], [1, 2, 3]):
            self.assertIsNone(floor_height(web, "ties", [wrong]))
        self.assertEqual(floor_height(web, "ties", [[(0, 3), (0, 4)]]), 1)
        self.assertEqual(floor_height(web, "all", [[3, (0, 3)]]), 1)

    def test_a_number_that_is_no_place(self):
        for kind in ("places", "all"):
            self.assert_none(
                star(6), kind, [3, 6], [6, 3], [-1, 3], [3, -1], [3, 4, 6], [-2, 3, 4], [3, HUGE], [-HUGE, 3], [6, 7])

    def test_a_pair_that_is_no_tie_or_is_turned_about(self):
        web = star(6)
        right = (0, 3)
        for wrong in ((3, 4), (4, 0), (1, 0), (0, 0), (0, 6), (-1, 0), (3, HUGE), (-HUGE, HUGE), (6, 7)):
            for kind in ("ties", "all"):
                self.assertIsNone(floor_height(web, kind, [[right, wrong]]))
                self.assertIsNone(floor_height(web, kind, [[wrong, right]]))
            self.assertIsNone(floor_height(web, "all", [[wrong, 0]]))
            self.assertIsNone(floor_height(web, "all", [[3, wrong]]))

    def test_three_things_that_are_not_all_twins(self):
        self.assertIsNone(floor_height(star(6), "places", [[0, 3, 4]]))
        self.assertIsNone(floor_height(row(5), "places", [[0, 2, 4]]))
        self.assertIsNone(floor_height(ring(4), "places", [[0, 2, 1]]))
        self.assertIsNone(floor_height(BUNCHES, "places", [[0, 3, 1]]))
        self.assertIsNone(floor_height(BUNCHES, "places", [[0, 3, 1, 2]]))
        self.assertIsNone(floor_height(BUNCHES, "places", [[0, 3, 5, 8]]))
        self.assertIsNone(floor_height(whole(3), "ties", [[(0, 1), (0, 2), (1, 2)]]))
        self.assertIsNone(floor_height(star(4), "all", [[(0, 1), (0, 2), (0, 3)]]))
        self.assertIsNone(floor_height(star(4), "all", [[1, 2, (0, 3)]]))

    def test_a_place_that_parts_in_two_lots(self):
        self.assertIsNone(floor_height(row(5), "places", [[0, 1], [2, 3]]))
        self.assertIsNone(floor_height(row(5), "places", [[0, 4], [1, 3]]))
        self.assertIsNone(floor_height(star(6), "places", [[1, 2, 3], [3, 4]]))
        self.assertIsNone(floor_height(star(6), "places", [[3, 4], [1, 2, 3]]))
        self.assertIsNone(floor_height(star(7), "places", [[1, 2, 3], [5, 6], [3, 4]]))
        self.assertEqual(floor_height(star(7), "places", [[1, 2], [5, 6], [3, 4]]), 3)

    def test_a_lot_told_twice(self):
        for web, kind, lot in (
                (star(4), "places", [1, 2, 3]), (star(4), "ties", [(0, 1), (0, 2)]), (row(2), "all", [0, (0, 1)])):
            self.assertIsNotNone(floor_height(web, kind, [lot]))
            self.assertIsNone(floor_height(web, kind, [lot, lot]))
            self.assertIsNone(floor_height(web, kind, [lot, lot[::-1]]))

    def drawn_lots(self, web, kind, draw):
        """Lots that are often a floor: near things, twins, now and then a wrong thing."""
        table = slow_fars(web)
        things = slow_things(web, kind)
        pairs = sorted(itertools.combinations(things, 2), key=lambda pair: len(slow_parters(table, *pair)))
        lots = []
        for turn in range(draw.randint(1, 4)):
            sort = draw.random()
            groups = slow_twins(web)
            if sort < 0.4 and groups:
                group = draw.choice(groups)
                lots.append(draw.sample(group, draw.randint(2, len(group))))
            elif sort < 0.9 and pairs:
                lots.append(list(pairs[draw.randrange(min(len(pairs), 8))]))
            else:
                every = things + [-1, web[0], (0, 1), (1, 0), (0, 2)]
                lots.append([draw.choice(every) for thing in range(draw.randint(0, 4))])
        return lots

    def test_all_by_each_word(self):
        draw = random.Random(1)
        seen = {}
        webs = [web for many in (1, 2, 3, 4) for web in all_webs(many)] + [row(5), star(6), ring(6), whole(6), BUNCHES]
        webs += [two_sided(2, 3), two_sided(3, 3), grid(2, 3)] + [chance_web(8, more, more) for more in range(6)]
        for web in webs:
            for kind in KINDS:
                for turn in range(12):
                    lots = self.drawn_lots(web, kind, draw)
                    kept = copy.deepcopy(lots)
                    height = floor_height(web, kind, lots)
                    self.assertEqual(height, slow_height(web, kind, lots), (web, kind, lots))
                    self.assertEqual(lots, kept)
                    seen[height] = seen.get(height, 0) + 1
        self.assertTrue(all(seen[height] > 20 for height in (None, 1, 2)), seen)

    def test_each_two_lots_of_two_things(self):
        for web in (row(4), star(4), ring(4), made_web(4, [(0, 1), (1, 2), (0, 2), (2, 3)])):
            for kind in KINDS:
                pairs = list(itertools.combinations(slow_things(web, kind), 2))
                for one, other in itertools.product(pairs, repeat=2):
                    lots = [list(one), list(other)]
                    self.assertEqual(floor_height(web, kind, lots), slow_height(web, kind, lots))

    def test_no_fewer_looks_than_its_height(self):
        draw = random.Random(2)
        for web in (star(5), ring(5), whole(5), chance_web(6, 0, 1), chance_web(6, 3, 2)):
            table = slow_fars(web)
            for kind in KINDS:
                things = slow_things(web, kind)
                fewest = min(len(looks) for looks in all_looks(web[0]) if slow_known(table, looks, things))
                for turn in range(40):
                    height = floor_height(web, kind, self.drawn_lots(web, kind, draw))
                    self.assertTrue(height is None or height <= fewest)

    def test_what_is_told_may_be_handed_in(self):
        for web in sample_webs():
            groups = twins_of(web)
            self.assertEqual(floor_height(web, "places", groups), sum(len(group) - 1 for group in groups))

    def test_asked_again(self):
        lots = [[1, 2, 3], [4, 5]]
        self.assertEqual([floor_height(star(6), "places", lots) for turn in range(3)], [3, 3, 3])
        self.assertEqual(lots, [[1, 2, 3], [4, 5]])


if __name__ == "__main__":
    unittest.main()
