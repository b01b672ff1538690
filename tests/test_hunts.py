"""One that moves: hunts and shelters, told and judged."""

import copy
import functools
import itertools
import random
import unittest

from farhail.errors import TooMany
from farhail.hunts import hunt_judged, hunt_or_shelter, shelter_judged
from tests.samples import (
    HUGE, Trial, all_webs, chance_web, grid, renamed, ring, row, slow_code, slow_fars, small_webs, spider, star,
    two_sided, whole,
)

ALONE = (1, ())
TOO_MANY = (ALONE, row(8), ring(8), whole(8), grid(3, 3), star(60))


def hunted():
    """Webs of two to seven places, of each sort."""
    webs = [web for web in small_webs() if 1 < web[0] < 8] + list(all_webs(5))[::61]
    return webs + [renamed(spider((2, 2, 2)), 2), spider((1, 1, 4)), chance_web(7, 3, 8), two_sided(1, 5)]


slow_table = functools.cache(slow_fars)


@functools.cache
def slow_leads(web, standing, looks):
    """Where the parts of two or more places lead, as sets."""
    table = slow_table(web)
    parts = {}
    for place in standing:
        parts.setdefault(tuple(slow_code(table, looks, place)), []).append(place)
    return [frozenset(to for to in range(web[0]) if any(table[to][here] < 2 for here in part))
            for part in parts.values() if len(part) > 1]


def some_of(rows):
    """Seven of the rows at most, the first among them."""
    return rows[::1 + len(rows) // 7]


def rises(many, places):
    return list(places) == sorted(set(places)) and set(places) <= set(range(many))


def slow_hunt_right(web, many, hunt):
    """Whether a list is a hunt, by the words of the point."""
    for standing, looks, turns in hunt:
        if len(standing) < 2 or not rises(web[0], standing) or not rises(web[0], looks):
            return False
        if len(looks) > many or turns < 1:
            return False
        for lead in slow_leads(web, standing, looks):
            if not any(lead <= set(other) and fewer < turns for other, chosen, fewer in hunt):
                return False
    return any(list(standing) == list(range(web[0])) for standing, looks, turns in hunt)


def slow_shelter_right(web, many, shelter):
    """Whether a list is a shelter, by the words of the point."""
    if not shelter or any(len(standing) < 2 or not rises(web[0], standing) for standing in shelter):
        return False
    for standing in shelter:
        for count in range(min(many, web[0]) + 1):
            for looks in itertools.combinations(range(web[0]), count):
                leads = slow_leads(web, standing, looks)
                if not any(set(other) <= lead for lead in leads for other in shelter):
                    return False
    return True


@functools.cache
def slow_turns(web, many):
    """For each standing in which it is surely found, as a set, the fewest turns; as many looks as may be chosen."""
    looks = list(itertools.combinations(range(web[0]), min(many, web[0])))
    standings = [frozenset(some) for count in range(2, web[0] + 1)
                 for some in itertools.combinations(range(web[0]), count)]
    leads = {some: [slow_leads(web, tuple(sorted(some)), chosen) for chosen in looks] for some in standings}
    found = {}
    while True:
        turns = 1 + max(found.values(), default=0)
        fresh = [some for some in standings if some not in found
                 and any(all(lead in found for lead in way) for way in leads[some])]
        if not fresh:
            return found
        found.update({some: turns for some in fresh})


def other_hunt(web, many, found, draw):
    """A hunt that goes any way, of the standings that it comes to alone."""
    looks = [looks for count in range(many + 1) for looks in itertools.combinations(range(web[0]), count)]
    hunt, left, done = [], [frozenset(range(web[0]))], set()
    while left:
        some = left.pop()
        if some in done:
            continue
        done.add(some)
        standing = tuple(sorted(some))
        ways = [chosen for chosen in looks
                if all(found.get(lead, HUGE) < found[some] for lead in slow_leads(web, standing, chosen))]
        chosen = draw.choice(ways)
        hunt.append((standing, chosen, found[some]))
        left += slow_leads(web, standing, chosen)
    draw.shuffle(hunt)
    return hunt


class HuntOrShelterTest(Trial):

    def assert_right(self, web, many):
        told = hunt_or_shelter(web, many)
        self.assertIs(type(told), tuple)
        word, rows = told
        self.assertIs(type(rows), list)
        self.assertLessEqual(len(rows), 200)
        least = slow_turns(web, many).get(frozenset(range(web[0])))
        if least is None:
            self.assertEqual(word, "shelter", (web, many))
            self.assertTrue(slow_shelter_right(web, many, rows), (web, many, rows))
            self.assertIs(shelter_judged(web, many, rows), True)
            self.assertEqual({type(standing) for standing in rows}, {tuple})
        else:
            self.assertEqual(word, "hunt", (web, many))
            self.assertTrue(slow_hunt_right(web, many, rows), (web, many, rows))
            self.assertIs(hunt_judged(web, many, rows), True)
            turns = [turns for standing, looks, turns in rows if len(standing) == web[0]]
            self.assertEqual(min(turns), least, (web, many))
            for line in rows:
                self.assertEqual([type(line)] + [type(part) for part in line], [tuple, tuple, tuple, int])
        self.assertEqual(hunt_or_shelter(web, many), told)

    def test_webs_of_each_sort(self):
        for web in hunted():
            for many in (1, 2, 3):
                self.assert_right(web, many)

    def test_more_webs_of_six_and_seven_places(self):
        for seed in range(12):
            self.assert_right(chance_web(6 + seed % 2, seed % 5, 50 + seed), 1 + seed % 3)

    def test_ordinary(self):
        self.assertEqual(self.turns(row(2), 1), 1)
        self.assertEqual(self.turns(row(7), 1), 1)
        self.assertEqual(self.turns(ring(5), 2), 1)
        self.assertEqual(self.turns(star(7), 3), 2)
        self.assertEqual([self.turns(whole(many), 1) for many in (2, 3, 4)], [1, None, None])
        self.assertEqual([self.turns(whole(7), many) for many in (1, 2, 3)], [None, None, None])
        self.assertEqual([self.turns(whole(many), many - 1) for many in (2, 3, 4)], [1, 1, 1])

    def turns(self, web, many):
        word, rows = hunt_or_shelter(web, many)
        return min((turns for standing, looks, turns in rows if len(standing) == web[0])) if word == "hunt" else None

    def test_both_are_told_in_several_turns(self):
        told = [(many, self.turns(web, many)) for web in hunted() for many in (1, 2, 3)]
        for wished in ((1, None), (1, 1), (1, 2), (1, 3), (1, 4), (2, None), (2, 1), (2, 2), (3, None), (3, 1), (3, 2)):
            self.assertIn(wished, told)

    def test_never_both(self):
        for web in hunted()[::2]:
            for many in (1, 2, 3):
                word, rows = hunt_or_shelter(web, many)
                places = range(web[0])
                every = [some for count in range(2, web[0] + 1) for some in itertools.combinations(places, count)]
                if word == "hunt":
                    for shelter in (every, every[-1:], every[:3], [standing for standing, looks, turns in rows]):
                        self.assertIs(shelter_judged(web, many, shelter), False)
                else:
                    most = tuple(range(min(many, web[0])))
                    hunt = [(standing, most, len(standing)) for standing in every]
                    self.assertIs(hunt_judged(web, many, hunt), False)

    def test_too_many(self):
        for web in TOO_MANY:
            for many in (1, 2, 3):
                self.assert_refused(TooMany, hunt_or_shelter, web, many)

    def test_what_is_told_is_the_askers_own(self):
        for web, many in ((row(5), 1), (star(6), 2), (whole(5), 1), (whole(7), 3), (ring(6), 1)):
            kept = copy.deepcopy(hunt_or_shelter(web, many))
            told = hunt_or_shelter(web, many)
            self.assert_own(told)
            told[1].append("more")
            told[1].reverse()
            self.assertEqual(hunt_or_shelter(web, many), kept)


class HuntJudgedTest(Trial):

    def assert_judged(self, web, many, hunt, wished):
        before = copy.deepcopy(hunt)
        self.assertIs(hunt_judged(web, many, hunt), wished, (web, many, hunt))
        self.assertEqual(hunt, before)

    def hunts(self):
        """Webs, numbers of looks and hunts by them, told and made otherwise."""
        draw = random.Random(1)
        rows = []
        for web in hunted()[::2]:
            for many in (1, 2, 3):
                found = slow_turns(web, many)
                if frozenset(range(web[0])) in found:
                    rows.append((web, many, hunt_or_shelter(web, many)[1]))
                    rows += [(web, many, other_hunt(web, many, found, draw)) for turn in range(2)]
        return rows

    def test_told_and_others(self):
        for web, many, hunt in self.hunts():
            self.assert_judged(web, many, hunt, True)
            self.assert_judged(web, many, hunt[::-1], True)
            self.assert_judged(web, many, hunt + hunt[:1], True)
            self.assert_judged(web, many, [(standing, looks, 7 * turns + 4) for standing, looks, turns in hunt], True)
            self.assert_judged(web, many, [(standing, looks, turns * HUGE) for standing, looks, turns in hunt], True)
            self.assert_judged(web, many + 1, hunt, True)

    def test_small_hunts(self):
        self.assert_judged(row(3), 1, [((0, 1, 2), (0,), 1)], True)
        self.assert_judged(row(3), 1, [((0, 1, 2), (0,), 9)], True)
        self.assert_judged(row(3), 1, [((0, 1, 2), (1,), 1)], False)
        self.assert_judged(row(3), 1, [((0, 1, 2), (1,), 2), ((0, 1, 2), (2,), 1)], True)
        self.assert_judged(row(3), 1, [((0, 1, 2), (), 2), ((0, 1, 2), (2,), 1)], True)
        self.assert_judged(row(3), 1, [((0, 1, 2), (1,), 1), ((0, 1, 2), (2,), 1)], False)
        self.assert_judged(row(3), 1, [((0, 1, 2), (1,), 1), ((0, 1, 2), (2,), 2)], False)
        self.assert_judged(row(3), 2, [((0, 1, 2), (0, 2), 1)], True)
        self.assert_judged(row(3), 1, [((0, 1, 2), (0, 2), 1)], False)
        self.assert_judged(row(3), 1, [((0, 1, 2), (0,), 0)], False)
        self.assert_judged(row(3), 1, [((0, 1), (0,), 1)], False)

    def test_a_lead_within_a_greater_standing(self):
        # By look 1 in a row of four places 0 and 2 are one part, which leads to all places.
        self.assert_judged(row(4), 1, [((0, 1, 2, 3), (1,), 2), ((0, 1, 2, 3), (3,), 1)], True)
        # In a star of four the two other ends lead to themselves and the middle, which lie in more.
        right = [((0, 1, 2, 3), (1,), 2), ((0, 2, 3), (2,), 1)]
        self.assert_judged(star(4), 1, right, True)
        self.assert_judged(star(4), 1, [((0, 1, 2, 3), (1,), 2), ((2, 3), (2,), 1)], False)
        self.assert_judged(star(4), 1, [((0, 1, 2, 3), (1,), 3), ((0, 1, 2, 3), (1,), 2), ((0, 2, 3), (2,), 1)], True)

    def test_empty(self):
        for web in hunted():
            for many in (1, 2, 3):
                self.assert_judged(web, many, [], False)

    def test_wrong_in_each_way_at_each_tuple(self):
        for web, many, hunt in self.hunts()[::5]:
            for at, (standing, looks, turns) in some_of(list(enumerate(hunt))):
                wrongs = [(standing[:1], looks, turns), ((), looks, turns), (standing[::-1], looks, turns)]
                wrongs += [(standing + standing[-1:], looks, turns), (standing + (web[0],), looks, turns)]
                wrongs += [((-1,) + standing, looks, turns), (standing + (HUGE,), looks, turns)]
                wrongs += [(standing, looks, 0), (standing, looks, -1), (standing, looks, -HUGE)]
                wrongs += [(standing, tuple(range(web[0]))[:many] + (web[0],), turns), (standing, (web[0],), turns)]
                wrongs += [(standing, (-1,), turns), (standing, (HUGE,), turns), (standing, (1, 0), turns)]
                wrongs += [(standing, (0, 0), turns), (standing, tuple(range(many + 1)), turns)]
                for wrong in wrongs:
                    made = hunt[:at] + [wrong] + hunt[at + 1:]
                    wished = slow_hunt_right(web, many, made)
                    self.assertEqual(wished, False)
                    self.assert_judged(web, many, made, False)
                    self.assert_judged(web, many, hunt + [wrong], False)

    def test_looks_left_out_and_turns_changed(self):
        refused = 0
        for web, many, hunt in self.hunts()[::2]:
            for at, (standing, looks, turns) in some_of(list(enumerate(hunt))):
                for wrong in [(standing, looks[1:], turns), (standing, (), turns), (standing, looks, turns + 1),
                              (standing, looks, max(1, turns - 1)), (standing, (0,), turns)]:
                    made = hunt[:at] + [wrong] + hunt[at + 1:]
                    wished = slow_hunt_right(web, many, made)
                    self.assert_judged(web, many, made, wished)
                    refused += not wished
                fewer = hunt[:at] + hunt[at + 1:]
                self.assert_judged(web, many, fewer, slow_hunt_right(web, many, fewer))
        self.assertGreater(refused, 100)

    def test_no_tuple_of_all_places(self):
        for web, many, hunt in self.hunts():
            self.assert_judged(web, many, [line for line in hunt if len(line[0]) < web[0]], False)

    def test_too_many(self):
        for web in TOO_MANY:
            for hunt in ([], [((0,), (), 1)], [(tuple(range(web[0])), (0,), 1)], [((5, 4), (-1,), 0)]):
                self.assert_refused(TooMany, hunt_judged, web, 1, hunt)

    def test_lists_of_200(self):
        hunt = [((0, 1, 2, 3, 4, 5, 6), (0,), 1 + at) for at in range(200)]
        self.assert_judged(row(7), 1, hunt, True)
        hunt = [((0, 1, 2, 3, 4, 5, 6), (0, 1, 2), 1 + at) for at in range(200)]
        self.assert_judged(whole(7), 3, hunt, False)


class ShelterJudgedTest(Trial):

    def assert_judged(self, web, many, shelter, wished):
        before = copy.deepcopy(shelter)
        self.assertIs(shelter_judged(web, many, shelter), wished, (web, many, shelter))
        self.assertEqual(shelter, before)

    def shelters(self):
        """Webs, numbers of looks and shelters from them, told and made otherwise."""
        rows = []
        for web in hunted():
            for many in (1, 2, 3):
                word, told = hunt_or_shelter(web, many)
                if word == "shelter":
                    least = [some for some in told if not any(set(other) < set(some) for other in told)]
                    rows += [(web, many, told), (web, many, least)]
        return rows

    def test_told_and_others(self):
        self.assertGreater(len(self.shelters()), 50)
        for web, many, shelter in self.shelters():
            self.assert_judged(web, many, shelter, True)
            self.assert_judged(web, many, shelter[::-1] + shelter[:2], True)
            if many > 1:
                self.assert_judged(web, many - 1, shelter, True)
            self.assert_judged(web, many, shelter + [tuple(range(web[0]))], True)

    def test_small_shelters(self):
        self.assert_judged(whole(3), 1, [(0, 1, 2)], True)
        self.assert_judged(whole(3), 1, [(0, 1), (0, 2), (1, 2)], False)
        self.assert_judged(whole(3), 2, [(0, 1, 2)], False)
        self.assert_judged(whole(4), 2, [(0, 1, 2, 3)], True)
        self.assert_judged(row(3), 1, [(0, 1, 2)], False)
        self.assert_judged(ring(4), 1, [(0, 1, 2, 3)], True)
        self.assert_judged(ring(4), 2, [(0, 1, 2, 3)], False)
        self.assert_judged(row(2), 1, [(0, 1)], False)

    def test_empty(self):
        for web in hunted():
            for many in (1, 2, 3):
                self.assert_judged(web, many, [], False)

    def test_wrong_standings(self):
        for web, many, shelter in self.shelters()[::3]:
            some = shelter[0]
            for wrong in ((), some[:1], some[::-1], some + some[-1:], some + (web[0],), (-1,) + some, some + (HUGE,),
                          (0, 0), (1, 0), (web[0], web[0] + 1)):
                self.assert_judged(web, many, shelter + [wrong], False)
                self.assert_judged(web, many, [wrong] + shelter, False)
                self.assert_judged(web, many, [wrong], False)

    def test_a_standing_that_is_found(self):
        tried = 0
        for web, many, shelter in self.shelters()[::2]:
            found = slow_turns(web, many)
            for some in some_of(list(found)):
                made = shelter + [tuple(sorted(some))]
                wished = slow_shelter_right(web, many, made)
                self.assert_judged(web, many, made, wished)
                tried += not wished
        self.assertGreater(tried, 50)

    def test_standings_left_out(self):
        refused = 0
        for web, many, shelter in self.shelters()[::3]:
            fewer = [shelter[:at] + shelter[at + 1:] for at in range(len(shelter))]
            for made in fewer[::4] + [shelter[:1], shelter[-1:]]:
                wished = slow_shelter_right(web, many, made)
                self.assert_judged(web, many, made, wished)
                refused += not wished
        self.assertGreater(refused, 10)

    def test_chance_lists_as_the_words_have_it(self):
        draw = random.Random(9)
        for web in hunted()[::3]:
            places = range(web[0])
            every = [some for count in range(2, web[0] + 1) for some in itertools.combinations(places, count)]
            for turn in range(4):
                made = draw.sample(every, draw.randint(1, min(8, len(every))))
                self.assert_judged(web, 1 + turn % 3, made, slow_shelter_right(web, 1 + turn % 3, made))

    def test_too_many(self):
        for web in TOO_MANY:
            for shelter in ([], [(0,)], [(0, 1)], [tuple(range(web[0]))], [(5, 4), (-1,)]):
                self.assert_refused(TooMany, shelter_judged, web, 1, shelter)

    def test_lists_of_200(self):
        self.assert_judged(whole(7), 3, [(0, 1, 2, 3, 4, 5, 6)] * 200, True)
        self.assert_judged(whole(7), 3, [(0, 1, 2, 3, 4, 5, 6)] * 199 + [(0, 1)], False)


if __name__ == "__main__":
    unittest.main()
