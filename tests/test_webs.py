"""Webs, how they are made and refused, and how far places and ties are."""

import copy
import random
import unittest

from farhail.errors import Apart, NoPlace, NoThing, NoWeb
from farhail.webs import fars_from, far_between, made_web, neighbours_of, rounds_of, tie_far
from tests.samples import (
    HUGE, Trial, all_webs, chance_web, grid, ring, row, sample_webs, slow_far, slow_fars, star, two_sided, whole,
)


class MadeWebTest(Trial):

    def assert_web(self, web, wished):
        self.assertEqual(web, wished)
        self.assertIs(type(web), tuple)
        self.assertIs(type(web[0]), int)
        self.assertIs(type(web[1]), tuple)
        for tie in web[1]:
            self.assertIs(type(tie), tuple)

    def test_ties_in_any_order_either_end_first(self):
        self.assert_web(made_web(4, [(3, 2), (0, 1), (2, 0)]), (4, ((0, 1), (0, 2), (2, 3))))

    def test_ties_are_sorted_by_number(self):
        ties = [(0, 10), (9, 0), (0, 2), (3, 0), (4, 0), (0, 5), (6, 0), (0, 7), (8, 0), (1, 0)]
        self.assert_web(made_web(11, ties), star(11))

    def test_each_small_web_however_it_is_told(self):
        draw = random.Random(4)
        for many in range(1, 6):
            for web in all_webs(many):
                ties = [draw.choice((tie, tie[::-1])) for tie in web[1]]
                draw.shuffle(ties)
                self.assert_web(made_web(many, ties), web)

    def test_one_place_with_no_ties(self):
        self.assert_web(made_web(1, []), (1, ()))

    def test_sixty_places(self):
        for web in (row(60), ring(60), star(60), chance_web(60, 140, 5)):
            self.assert_web(made_web(60, list(web[1])[::-1]), web)

    def test_somewhat_more_than_two_hundred_ties(self):
        self.assert_web(made_web(21, list(whole(21)[1])), whole(21))

    def test_told_again_from_a_told_web(self):
        for web in sample_webs():
            self.assertEqual(made_web(web[0], list(web[1])), web)

    def test_asked_again(self):
        ties = [(2, 1), (0, 1)]
        self.assertEqual(made_web(3, ties), made_web(3, ties))

    def test_many_out_of_bounds(self):
        for many in (0, -1, -60, 61, 62, 1000, HUGE, -HUGE):
            self.assert_refused(NoWeb, made_web, many, [])
        self.assert_refused(NoWeb, made_web, 61, list(row(61)[1]))
        self.assert_refused(NoWeb, made_web, 0, [(0, 1)])

    def test_an_end_that_is_no_place(self):
        for wrong in (-1, -2, -3, 3, 4, 60, HUGE, -HUGE):
            for tie in ((wrong, 1), (1, wrong), (wrong, 0), (0, wrong)):
                self.assert_refused(NoWeb, made_web, 3, [(0, 1), (1, 2), tie])
                self.assert_refused(NoWeb, made_web, 3, [tie, (0, 1), (1, 2)])
        self.assert_refused(NoWeb, made_web, 3, [(0, 1), (1, 2), (-1, 3)])
        self.assert_refused(NoWeb, made_web, 1, [(0, 1)])

    def test_like_ends(self):
        for place in range(3):
            self.assert_refused(NoWeb, made_web, 3, [(0, 1), (1, 2), (place, place)])
        self.assert_refused(NoWeb, made_web, 1, [(0, 0)])
        self.assert_refused(NoWeb, made_web, 3, [(0, 1), (1, 2), (3, 3)])

    def test_a_tie_told_twice(self):
        for again in ((0, 1), (1, 0), (1, 2), (2, 1)):
            self.assert_refused(NoWeb, made_web, 3, [(0, 1), (2, 1), again])
            self.assert_refused(NoWeb, made_web, 3, [again, (0, 1), (2, 1)])

    def test_apart_bears_the_least_place_without_a_way(self):
        cases = (
            (2, [], 1),
            (60, [], 1),
            (3, [(0, 1)], 2),
            (3, [(1, 2)], 1),
            (4, [(0, 2)], 1),
            (4, [(3, 0), (1, 2)], 1),
            (5, [(0, 4), (4, 1), (2, 3)], 2),
            (6, [(5, 0), (1, 5), (1, 2), (3, 4)], 3),
            (60, list(row(59)[1]), 59),
            (60, [tie for tie in row(60)[1] if tie != (29, 30)], 30),
        )
        for many, ties, place in cases:
            refusal = self.assert_refused(Apart, made_web, many, ties)
            self.assertEqual(refusal.place, place)
            self.assertIs(type(refusal.place), int)

    def test_no_web_goes_ahead_of_apart(self):
        for wrong in ((0, 4), (-1, 2), (2, 2), (1, 0)):
            self.assert_refused(NoWeb, made_web, 4, [(0, 1), wrong])
            self.assert_refused(NoWeb, made_web, 4, [wrong, (0, 1)])

    def test_what_is_handed_in_stays(self):
        for many, ties in ((4, [(3, 2), (0, 1), (2, 0)]), (4, [(2, 3), (1, 0)]), (3, [(2, 1), (1, 0), (1, 2)])):
            before = copy.deepcopy(ties)
            try:
                made_web(many, ties)
            except ValueError:
                pass
            self.assertEqual(ties, before)

    def test_what_is_handed_in_is_not_kept(self):
        ties = [(1, 0), (2, 1)]
        web = made_web(3, ties)
        ties.clear()
        self.assertEqual(web, (3, ((0, 1), (1, 2))))


class FarTest(Trial):

    def test_neighbours_told_one_by_one(self):
        self.assertEqual([neighbours_of(row(4), place) for place in range(4)], [[1], [0, 2], [1, 3], [2]])
        self.assertEqual([neighbours_of(ring(4), place) for place in range(4)], [[1, 3], [0, 2], [1, 3], [0, 2]])
        self.assertEqual([neighbours_of(star(4), place) for place in range(4)], [[1, 2, 3], [0], [0], [0]])
        self.assertEqual(neighbours_of(whole(5), 2), [0, 1, 3, 4])
        self.assertEqual(neighbours_of((1, ()), 0), [])

    def test_fars_told_one_by_one(self):
        self.assertEqual(fars_from(row(5), 1), [1, 0, 1, 2, 3])
        self.assertEqual(fars_from(ring(6), 4), [2, 3, 2, 1, 0, 1])
        self.assertEqual(fars_from(ring(5), 0), [0, 1, 2, 2, 1])
        self.assertEqual(fars_from(star(5), 2), [1, 2, 0, 2, 2])
        self.assertEqual(fars_from(whole(4), 3), [1, 1, 1, 0])
        self.assertEqual(fars_from(two_sided(2, 3), 0), [0, 2, 1, 1, 1])
        self.assertEqual(fars_from(grid(2, 3), 0), [0, 1, 2, 1, 2, 3])
        self.assertEqual(fars_from((1, ()), 0), [0])
        self.assertEqual(far_between(row(60), 59, 0), 59)
        self.assertEqual(far_between(ring(60), 45, 5), 20)

    def test_tie_fars_told_one_by_one(self):
        self.assertEqual([tie_far(row(5), 1, tie) for tie in row(5)[1]], [0, 0, 1, 2])
        self.assertEqual([tie_far(ring(5), 0, tie) for tie in ring(5)[1]], [0, 0, 1, 2, 1])
        self.assertEqual([tie_far(star(4), 2, tie) for tie in star(4)[1]], [1, 0, 1])
        self.assertEqual([tie_far(row(5), place, (2, 3)) for place in range(5)], [2, 1, 0, 0, 1])

    def test_rounds_told_one_by_one(self):
        self.assertEqual(rounds_of(row(5), 1), [[1], [0, 2], [3], [4]])
        self.assertEqual(rounds_of(ring(6), 4), [[4], [3, 5], [0, 2], [1]])
        self.assertEqual(rounds_of(star(4), 0), [[0], [1, 2, 3]])
        self.assertEqual(rounds_of(star(4), 3), [[3], [0], [1, 2]])
        self.assertEqual(rounds_of(whole(4), 2), [[2], [0, 1, 3]])
        self.assertEqual(rounds_of((1, ()), 0), [[0]])

    def test_all_as_the_slow_table_has_it(self):
        for web in sample_webs():
            many, ties = web
            table = slow_fars(web)
            for place in range(many):
                self.assertEqual(fars_from(web, place), table[place])
                beside = [other for other in range(many) if table[place][other] == 1]
                self.assertEqual(neighbours_of(web, place), beside)
                rounds = [
                    [other for other in range(many) if table[place][other] == far]
                    for far in range(max(table[place]) + 1)
                ]
                self.assertEqual(rounds_of(web, place), rounds)
            for place in range(0, many, 7):
                self.assertEqual([far_between(web, place, other) for other in range(many)], table[place])
                fars = [tie_far(web, place, tie) for tie in ties]
                self.assertEqual(fars, [slow_far(table, place, tie) for tie in ties])

    def test_no_place(self):
        for web in ((1, ()), row(5), ring(6), star(60)):
            for wrong in (-1, -2, -web[0], web[0], web[0] + 1, 1000, HUGE, -HUGE):
                for deed in (neighbours_of, fars_from, rounds_of):
                    self.assert_refused(NoPlace, deed, web, wrong)
                self.assert_refused(NoPlace, far_between, web, wrong, 0)
                self.assert_refused(NoPlace, far_between, web, 0, wrong)
                self.assert_refused(NoPlace, far_between, web, wrong, wrong)
                for tie in web[1][:2]:
                    self.assert_refused(NoPlace, tie_far, web, wrong, tie)

    def test_no_thing(self):
        web = row(5)
        wrongs = ((1, 0), (3, 2), (0, 2), (2, 2), (4, 5), (-1, 0), (0, -4), (7, 9), (HUGE, 0), (0, -HUGE))
        for wrong in wrongs:
            for place in range(5):
                self.assert_refused(NoThing, tie_far, web, place, wrong)
        self.assert_refused(NoThing, tie_far, (1, ()), 0, (0, 0))

    def test_no_place_goes_ahead_of_no_thing(self):
        for wrong in (-1, 5, HUGE):
            for pair in ((1, 0), (0, 2), (4, 5), (wrong, wrong)):
                self.assert_refused(NoPlace, tie_far, row(5), wrong, pair)


class OwnListsTest(Trial):

    def test_a_change_of_what_was_told_changes_nothing(self):
        for web in (row(4), ring(5), star(4), whole(4)):
            before = copy.deepcopy(web)
            for deed in (neighbours_of, fars_from, rounds_of):
                told = deed(web, 1)
                kept = copy.deepcopy(told)
                told.append("more")
                told[0] = "other"
                self.assertEqual(deed(web, 1), kept)
            self.assertEqual(web, before)

    def test_each_round_is_a_list_of_its_own(self):
        told = rounds_of(ring(6), 2)
        kept = copy.deepcopy(told)
        for at, places in enumerate(told):
            places.append(99)
            self.assertEqual(told[at + 1:], kept[at + 1:])
        self.assertEqual(rounds_of(ring(6), 2), kept)

    def test_lists_are_lists(self):
        web = ring(5)
        for told in (neighbours_of(web, 0), fars_from(web, 0), rounds_of(web, 0), rounds_of(web, 0)[1]):
            self.assertIs(type(told), list)
        for told in (far_between(web, 0, 2), tie_far(web, 0, (2, 3)), far_between(web, 1, 1)):
            self.assertIs(type(told), int)

    def test_asked_again_after_a_refusal(self):
        web = star(5)
        kept = (neighbours_of(web, 0), fars_from(web, 3), rounds_of(web, 3), tie_far(web, 3, (0, 1)))
        self.assert_refused(NoPlace, fars_from, web, 5)
        self.assert_refused(NoThing, tie_far, web, 3, (1, 0))
        again = (neighbours_of(web, 0), fars_from(web, 3), rounds_of(web, 3), tie_far(web, 3, (0, 1)))
        self.assertEqual(again, kept)


if __name__ == "__main__":
    unittest.main()
