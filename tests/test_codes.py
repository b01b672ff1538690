"""Things and their codes, what parts them, and what is known by looks."""

import copy
import itertools
import unittest

from farhail.codes import code_of, is_known, likes_by, parters_of, things_of
from farhail.errors import NoLooks, NoThing
from farhail.webs import far_between, made_web
from tests.samples import (
    HUGE, KINDS, Trial, all_webs, chance_looks, ring, row, sample_webs, slow_far, slow_fars, slow_things, star, whole,
)

ALONE = (1, ())


def slow_likes(web, looks, kind):
    table = slow_fars(web)
    things = slow_things(web, kind)
    codes = [[slow_far(table, look, thing) for look in looks] for thing in things]
    groups = [[other for other, code in zip(things, codes) if code == mine] for mine in codes]
    return [group for thing, group in zip(things, groups) if len(group) > 1 and group[0] == thing]


class ThingsTest(Trial):

    def test_the_three_kinds_in_order(self):
        web = made_web(4, [(3, 0), (2, 1), (1, 0)])
        self.assertEqual(things_of(web, "places"), [0, 1, 2, 3])
        self.assertEqual(things_of(web, "ties"), [(0, 1), (0, 3), (1, 2)])
        self.assertEqual(things_of(web, "all"), [0, 1, 2, 3, (0, 1), (0, 3), (1, 2)])

    def test_one_place_alone(self):
        self.assertEqual([things_of(ALONE, kind) for kind in KINDS], [[0], [], [0]])

    def test_all_webs(self):
        for web in sample_webs():
            for kind in KINDS:
                self.assertEqual(things_of(web, kind), slow_things(web, kind))

    def test_new_lists(self):
        web = ring(4)
        for kind in KINDS:
            told = things_of(web, kind)
            self.assertIs(type(told), list)
            kept = list(told)
            told.clear()
            self.assertEqual(things_of(web, kind), kept)


class CodeTest(Trial):

    def test_codes_told_one_by_one(self):
        self.assertEqual(code_of(row(5), [0, 3], 4), [4, 1])
        self.assertEqual(code_of(row(5), [0, 3], (3, 4)), [3, 0])
        self.assertEqual(code_of(row(5), [1, 2, 4], (1, 2)), [0, 0, 2])
        self.assertEqual(code_of(ring(6), [1, 4], 0), [1, 2])
        self.assertEqual(code_of(ring(6), [1, 4], (0, 5)), [1, 1])
        self.assertEqual(code_of(star(4), [1, 2, 3], (0, 2)), [1, 0, 1])
        self.assertEqual(code_of(whole(4), [0, 2], 2), [1, 0])
        self.assertEqual(code_of(ALONE, [0], 0), [0])

    def test_by_no_looks(self):
        for thing in (0, 4, (0, 1), (3, 4)):
            self.assertEqual(code_of(row(5), [], thing), [])
        self.assertEqual(code_of(ALONE, [], 0), [])

    def test_all_as_the_slow_table_has_it(self):
        for at, web in enumerate(sample_webs()):
            table = slow_fars(web)
            looks = chance_looks(web, at)
            for thing in slow_things(web, "all"):
                self.assertEqual(code_of(web, looks, thing), [slow_far(table, look, thing) for look in looks])

    def test_by_all_places(self):
        web = ring(7)
        for thing in range(7):
            self.assertEqual(code_of(web, list(range(7)), thing), [far_between(web, at, thing) for at in range(7)])

    def test_new_lists(self):
        web, looks = row(5), [0, 3]
        told = code_of(web, looks, 4)
        self.assertIs(type(told), list)
        told.append(9)
        self.assertEqual(code_of(web, looks, 4), [4, 1])
        self.assertEqual(looks, [0, 3])


class PartersTest(Trial):

    def test_told_one_by_one(self):
        self.assertEqual(parters_of(row(5), 1, 3), [0, 1, 3, 4])
        self.assertEqual(parters_of(row(5), 1, 2), [0, 1, 2, 3, 4])
        self.assertEqual(parters_of(row(5), (0, 1), (2, 3)), [0, 1, 2, 3, 4])
        self.assertEqual(parters_of(row(5), (0, 1), (1, 2)), [0, 2, 3, 4])
        self.assertEqual(parters_of(row(3), 1, (1, 2)), [2])
        self.assertEqual(parters_of(row(2), 0, (0, 1)), [1])
        self.assertEqual(parters_of(star(5), 2, 4), [2, 4])
        self.assertEqual(parters_of(star(5), (0, 1), (0, 3)), [1, 3])
        self.assertEqual(parters_of(ring(6), 0, 3), [0, 1, 2, 3, 4, 5])
        self.assertEqual(parters_of(ring(6), 0, 2), [0, 2, 3, 5])
        self.assertEqual(parters_of(whole(4), 1, 2), [1, 2])

    def test_all_as_the_slow_table_has_it_both_ways_round(self):
        webs = [web for many in range(2, 5) for web in all_webs(many)] + [ring(7), star(6), whole(5)]
        for web in webs:
            table = slow_fars(web)
            for one, other in itertools.combinations(slow_things(web, "all"), 2):
                wished = [at for at in range(web[0]) if slow_far(table, at, one) != slow_far(table, at, other)]
                self.assertEqual(parters_of(web, one, other), wished)
                self.assertEqual(parters_of(web, other, one), wished)

    def test_great_webs(self):
        for web in sample_webs():
            table = slow_fars(web)
            things = slow_things(web, "all")
            for one, other in zip(things[::9], things[5::7]):
                if one != other:
                    wished = [at for at in range(web[0]) if slow_far(table, at, one) != slow_far(table, at, other)]
                    self.assertEqual(parters_of(web, one, other), wished)

    def test_new_lists(self):
        told = parters_of(row(5), 1, 3)
        self.assertIs(type(told), list)
        told.clear()
        self.assertEqual(parters_of(row(5), 1, 3), [0, 1, 3, 4])


class KnownTest(Trial):

    def test_likes_told_one_by_one(self):
        self.assertEqual(likes_by(row(5), [2], "places"), [[0, 4], [1, 3]])
        self.assertEqual(likes_by(row(5), [2], "ties"), [[(0, 1), (3, 4)], [(1, 2), (2, 3)]])
        self.assertEqual(
            likes_by(row(5), [2], "all"), [[0, 4], [1, 3, (0, 1), (3, 4)], [2, (1, 2), (2, 3)]])
        self.assertEqual(likes_by(ring(4), [0, 2], "places"), [[1, 3]])
        self.assertEqual(likes_by(ring(4), [1], "places"), [[0, 2]])
        self.assertEqual(likes_by(star(5), [1, 2], "places"), [[3, 4]])
        self.assertEqual(likes_by(star(5), [0], "ties"), [[(0, 1), (0, 2), (0, 3), (0, 4)]])
        self.assertEqual(likes_by(row(5), [0], "places"), [])

    def test_a_group_of_many_stands_by_its_first_thing(self):
        self.assertEqual(likes_by(star(7), [4], "places"), [[1, 2, 3, 5, 6]])
        self.assertEqual(likes_by(row(7), [3], "places"), [[0, 6], [1, 5], [2, 4]])

    def test_by_no_looks_all_things_have_one_code(self):
        for web in sample_webs():
            for kind in KINDS:
                things = slow_things(web, kind)
                self.assertEqual(likes_by(web, [], kind), [things] if len(things) > 1 else [])
                self.assertIs(is_known(web, [], kind), len(things) < 2)

    def test_by_all_places(self):
        for web in sample_webs():
            places = list(range(web[0]))
            self.assertEqual(likes_by(web, places, "places"), [])
            self.assertIs(is_known(web, places, "places"), True)
            for kind in KINDS:
                self.assertEqual(likes_by(web, places, kind), slow_likes(web, places, kind))

    def test_one_place_alone(self):
        for kind in KINDS:
            for looks in ([], [0]):
                self.assertEqual(likes_by(ALONE, looks, kind), [])
                self.assertIs(is_known(ALONE, looks, kind), True)

    def test_two_places(self):
        known = {kind: [is_known(row(2), looks, kind) for looks in ([], [0], [1], [0, 1])] for kind in KINDS}
        self.assertEqual(known["places"], [False, True, True, True])
        self.assertEqual(known["ties"], [True, True, True, True])
        self.assertEqual(known["all"], [False, False, False, True])

    def test_each_small_web_by_all_its_looks(self):
        for web in [web for many in range(1, 5) for web in all_webs(many)]:
            for count in range(web[0] + 1):
                for looks in itertools.combinations(range(web[0]), count):
                    for kind in KINDS:
                        wished = slow_likes(web, looks, kind)
                        self.assertEqual(likes_by(web, list(looks), kind), wished)
                        self.assertIs(is_known(web, list(looks), kind), wished == [])

    def test_great_webs_by_some_looks(self):
        for at, web in enumerate(sample_webs()):
            looks = chance_looks(web, at + 100)
            for kind in KINDS:
                wished = slow_likes(web, looks, kind)
                self.assertEqual(likes_by(web, looks, kind), wished)
                self.assertIs(is_known(web, looks, kind), wished == [])

    def test_new_lists(self):
        web, looks = row(5), [2]
        for kind in KINDS:
            told = likes_by(web, looks, kind)
            kept = copy.deepcopy(told)
            for at, group in enumerate(told):
                self.assertIs(type(group), list)
                group.append("more")
                self.assertEqual(told[at + 1:], kept[at + 1:])
            told.clear()
            self.assertEqual(likes_by(web, looks, kind), kept)
        self.assertEqual((web, looks), (row(5), [2]))


class RefusalTest(Trial):

    def wrong_looks(self, many):
        return (
            [1, 0], [0, 2, 1], [2, 1, 3], [0, 0], [1, 2, 2], [0, 1, 0], [-1], [-1, 0], [-many], [0, many],
            [many], [many - 1, many], [0, many + 5], [HUGE], [-HUGE, 1], [3, -1],
        )

    def test_no_looks(self):
        for web in (row(5), ring(6), star(60)):
            for looks in self.wrong_looks(web[0]):
                before = list(looks)
                self.assert_refused(NoLooks, code_of, web, looks, 0)
                self.assert_refused(NoLooks, code_of, web, looks, (0, 1))
                for kind in KINDS:
                    self.assert_refused(NoLooks, likes_by, web, looks, kind)
                    self.assert_refused(NoLooks, is_known, web, looks, kind)
                self.assertEqual(looks, before)
        self.assert_refused(NoLooks, is_known, ALONE, [1], "ties")
        self.assert_refused(NoLooks, likes_by, ALONE, [0, 0], "places")

    def wrong_things(self, many):
        return (
            -1, -2, -many, many, many + 1, HUGE, -HUGE, (1, 0), (2, 1), (0, 3), (2, 2), (0, many), (-1, 0),
            (many, many + 1), (0, HUGE), (-HUGE, 1),
        )

    def test_no_thing(self):
        for web in (row(5), ring(6)):
            for wrong in self.wrong_things(web[0]):
                for looks in ([], [0], [1, 3], list(range(web[0]))):
                    self.assert_refused(NoThing, code_of, web, looks, wrong)
                for right in (0, (0, 1)):
                    self.assert_refused(NoThing, parters_of, web, wrong, right)
                    self.assert_refused(NoThing, parters_of, web, right, wrong)
                self.assert_refused(NoThing, parters_of, web, wrong, (7, 9))
        self.assert_refused(NoThing, code_of, ALONE, [0], (0, 0))

    def test_no_looks_goes_ahead_of_no_thing(self):
        for looks in self.wrong_looks(5):
            for wrong in self.wrong_things(5):
                self.assert_refused(NoLooks, code_of, row(5), looks, wrong)

    def test_asked_again_after_a_refusal(self):
        web, looks = ring(5), [0, 1]
        kept = (code_of(web, looks, 3), likes_by(web, looks, "all"), parters_of(web, 0, (1, 2)))
        self.assert_refused(NoThing, code_of, web, looks, 5)
        self.assert_refused(NoLooks, likes_by, web, [1, 1], "all")
        self.assertEqual((code_of(web, looks, 3), likes_by(web, looks, "all"), parters_of(web, 0, (1, 2))), kept)


if __name__ == "__main__":
    unittest.main()
