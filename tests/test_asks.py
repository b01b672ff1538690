"""Looks asked one by one: the fewest asks, plans and tables."""

import copy
import itertools
import random
import unittest

from farhail.asks import fewest_asks, plan_asks, table_shows
from farhail.codes import things_of
from farhail.errors import TooMany
from tests.samples import (
    HUGE, KINDS, Trial, all_webs, chance_web, grid, renamed, ring, row, slow_far, slow_fars, slow_things, small_webs,
    spider, star, two_sided, whole,
)

ALONE = (1, ())
TOO_MANY = [(web, kind) for web in (row(8), ring(8), star(9), whole(8), grid(3, 3), star(60)) for kind in KINDS] + [
    (ALONE, "ties"), (whole(5), "ties"), (whole(5), "all"), (ring(5), "all"), (row(5), "all"), (whole(4), "all"),
    (two_sided(3, 3), "ties"), (row(7), "all"), (star(7), "all"),
]


def asked():
    """Small webs and kinds that asks are told of."""
    webs = [web for web in small_webs() if web[0] < 8] + [renamed(spider((2, 2, 2)), 1), chance_web(7, 1, 5)]
    return [(web, kind) for web in webs for kind in KINDS if 1 <= len(slow_things(web, kind)) <= 8]


def slow_parts(table, place, things):
    """For each answer the things that give it, in their order."""
    answers = sorted({slow_far(table, place, thing) for thing in things})
    return [(far, tuple(thing for thing in things if slow_far(table, place, thing) == far)) for far in answers]


def slow_least(table, things):
    """The fewest asks, all plans tried."""
    if len(things) == 1:
        return 0
    tried = [[part for far, part in slow_parts(table, place, things)] for place in range(len(table))]
    return 1 + min(max(slow_least(table, part) for part in parts) for parts in tried if len(parts) > 1)


def slow_asks(table, things, plan):
    """The asks of a plan, by the words of the point; None of what is none."""
    if plan[0] == "is":
        return 0 if len(things) == 1 and things[0] == plan[1] else None
    word, place, branches = plan
    if place not in range(len(table)):
        return None
    parts = slow_parts(table, place, things)
    if len(parts) != len(branches) or len(parts) < 2:
        return None
    counts = []
    for (far, part), (told, branch) in zip(parts, branches):
        counts.append(slow_asks(table, part, branch) if far == told else None)
    return None if None in counts else 1 + max(counts)


def slow_shows(table, things, asks, rows):
    """Whether a table shows a number, by the words of the point."""
    kept = [some for some, least in rows]
    if len(set(kept)) < len(kept) or tuple(things) not in kept:
        return False
    for some, least in rows:
        if not some or any(thing not in things for thing in some):
            return False
        numbers = [things.index(thing) for thing in some]
        if numbers != sorted(set(numbers)):
            return False
        if least == 0 or (len(some) > 1 and least == 1):
            continue
        if least < 0 or len(some) < 2:
            return False
        for place in range(len(table)):
            parts = [part for far, part in slow_parts(table, place, some)]
            if not any(part == other and more >= least - 1 for part in parts for other, more in rows):
                return False
    return dict(rows)[tuple(things)] >= asks


def chance_plan(table, things, draw):
    """A plan by any places that part what is left."""
    if len(things) == 1:
        return ("is", things[0])
    places = [place for place in range(len(table)) if len(slow_parts(table, place, things)) > 1]
    place = draw.choice(places)
    parts = slow_parts(table, place, things)
    return ("ask", place, tuple((far, chance_plan(table, part, draw)) for far, part in parts))


def spots_in(plan):
    spots = [()]
    if plan[0] == "ask":
        for at, (far, branch) in enumerate(plan[2]):
            spots += [(at,) + spot for spot in spots_in(branch)]
    return spots


def at_spot(plan, spot):
    for at in spot:
        plan = plan[2][at][1]
    return plan


def changed(plan, spot, new):
    """The plan with a new one at the spot."""
    if not spot:
        return new
    word, place, parts = plan
    far, branch = parts[spot[0]]
    return (word, place, parts[:spot[0]] + ((far, changed(branch, spot[1:], new)),) + parts[spot[0] + 1:])


class FewestAsksTest(Trial):

    def assert_right(self, web, kind):
        table, things = slow_fars(web), tuple(slow_things(web, kind))
        told = fewest_asks(web, kind)
        self.assertIs(type(told), tuple)
        asks, plan, rows = told
        self.assertIs(type(asks), int)
        self.assertEqual(asks, slow_least(table, things), (web, kind))
        self.assertEqual(slow_asks(table, things, plan), asks)
        self.assert_formed(plan)
        self.assertIs(type(rows), list)
        self.assertLessEqual(len(rows), 300)
        for line in rows:
            self.assertEqual((type(line), type(line[0]), type(line[1])), (tuple, tuple, int))
        self.assertTrue(slow_shows(table, list(things), asks, rows), (web, kind, rows))
        self.assertFalse(slow_shows(table, list(things), asks + 1, rows))
        self.assertEqual(fewest_asks(web, kind), told)

    def assert_formed(self, plan):
        self.assertIs(type(plan), tuple)
        if plan[0] == "is":
            self.assertEqual(len(plan), 2)
            return
        self.assertEqual((plan[0], len(plan), type(plan[2])), ("ask", 3, tuple))
        for part in plan[2]:
            self.assertEqual((type(part), len(part)), (tuple, 2))
            self.assert_formed(part[1])

    def test_each_kind_of_small_webs(self):
        for web, kind in asked():
            self.assert_right(web, kind)

    def test_many_webs_of_five_places(self):
        for web in list(all_webs(5))[::13]:
            for kind in KINDS:
                if 1 <= len(slow_things(web, kind)) <= 8:
                    self.assert_right(web, kind)

    def test_one_thing_alone(self):
        for web, kind, thing in ((ALONE, "places", 0), (ALONE, "all", 0), (row(2), "ties", (0, 1))):
            asks, plan, rows = fewest_asks(web, kind)
            self.assertEqual((asks, plan), (0, ("is", thing)))
            self.assertTrue(slow_shows(slow_fars(web), [thing], 0, rows))

    def test_ordinary(self):
        self.assertEqual([fewest_asks(row(many), "places")[0] for many in range(1, 8)], [0] + [1] * 6)
        self.assertEqual([fewest_asks(whole(many), "places")[0] for many in range(2, 8)], [1, 2, 3, 4, 5, 6])
        self.assertEqual([fewest_asks(star(many), "places")[0] for many in range(2, 8)], [1, 1, 2, 3, 4, 5])
        self.assertEqual([fewest_asks(ring(many), "places")[0] for many in range(3, 8)], [2, 2, 2, 2, 2])
        self.assertEqual(fewest_asks(row(2), "all")[0], 2)

    def test_the_greatest_that_are_told(self):
        for web, kind in ((whole(7), "places"), (star(7), "ties"), (ring(4), "all"), (grid(2, 3), "ties"),
                          (chance_web(7, 2, 1), "ties"), (row(4), "all"), (star(4), "all")):
            self.assertGreater(len(slow_things(web, kind)), 5)
            self.assert_right(web, kind)
        eights = [(web, kind) for web, kind in asked() if len(slow_things(web, kind)) == 8]
        self.assertGreater(len(eights), 3)

    def test_too_many(self):
        for web, kind in TOO_MANY:
            self.assertTrue(web[0] > 7 or not 1 <= len(slow_things(web, kind)) <= 8)
            self.assert_refused(TooMany, fewest_asks, web, kind)

    def test_what_is_told_is_the_askers_own(self):
        for web, kind in asked()[::5]:
            kept = copy.deepcopy(fewest_asks(web, kind))
            told = fewest_asks(web, kind)
            self.assert_own(told)
            told[2].append(((0,), 0))
            told[2].reverse()
            self.assertEqual(fewest_asks(web, kind), kept)
            self.assertEqual(things_of(web, kind), slow_things(web, kind))


class PlanAsksTest(Trial):

    def assert_asks(self, web, kind, plan, wished):
        told = plan_asks(web, kind, plan)
        self.assertEqual(told, wished, (web, kind, plan))
        self.assertIs(type(told), type(wished))

    def test_told_plans_and_others(self):
        draw = random.Random(1)
        more = 0
        for web, kind in asked():
            table, things = slow_fars(web), tuple(slow_things(web, kind))
            asks, plan, rows = fewest_asks(web, kind)
            self.assert_asks(web, kind, plan, asks)
            for turn in range(4):
                other = chance_plan(table, things, draw)
                wished = slow_asks(table, things, other)
                self.assertGreaterEqual(wished, asks)
                self.assert_asks(web, kind, other, wished)
                more += wished > asks
        self.assertGreater(more, 50)

    def test_ordinary(self):
        plan = ("ask", 0, ((0, ("is", 0)), (1, ("is", 1)), (2, ("is", 2))))
        self.assert_asks(row(3), "places", plan, 1)
        slow = ("ask", 1, ((0, ("is", 1)), (1, ("ask", 0, ((0, ("is", 0)), (2, ("is", 2)))))))
        self.assert_asks(row(3), "places", slow, 2)
        self.assert_asks(row(3), "places", ("ask", 1, ((0, ("is", 1)), (1, ("is", 0)))), None)
        self.assert_asks(row(3), "ties", ("ask", 2, ((0, ("is", (1, 2))), (1, ("is", (0, 1))))), 1)
        self.assert_asks(row(3), "ties", ("ask", 2, ((0, ("is", (2, 1))), (1, ("is", (0, 1))))), None)
        self.assert_asks(ALONE, "places", ("is", 0), 0)
        self.assert_asks(row(2), "ties", ("is", (0, 1)), 0)

    def test_wrong_in_each_way_at_each_spot(self):
        draw = random.Random(2)
        for web, kind in asked()[::4]:
            table, things = slow_fars(web), tuple(slow_things(web, kind))
            for plan in (fewest_asks(web, kind)[1], chance_plan(table, things, draw)):
                for spot in spots_in(plan):
                    for wrong in self.wrong_ways(web, at_spot(plan, spot)):
                        made = changed(plan, spot, wrong)
                        self.assertIsNone(slow_asks(table, things, made), made)
                        self.assert_asks(web, kind, made, None)

    def wrong_ways(self, web, here):
        if here[0] == "is":
            thing = here[1]
            turned = [("is", (thing[1], thing[0]))] if type(thing) is tuple else [("is", (thing, thing))]
            others = [other for other in (0, 1, (0, 1), (1, 2), -1, web[0], HUGE, (0, web[0])) if other != thing]
            alone = [("ask", place, ((slow_far(slow_fars(web), place, thing), here),)) for place in range(web[0])]
            return turned + [("is", other) for other in others] + alone + [("ask", 0, ())]
        word, place, parts = here
        ways = [("is", 0), ("is", (0, 1)), ("ask", -1, parts), ("ask", web[0], parts), ("ask", HUGE, parts)]
        ways += [("ask", place - web[0], parts), ("ask", place, ())]
        ways += [("ask", place, parts[1:]), ("ask", place, parts[:-1])]
        ways += [("ask", place, parts + (parts[-1],)), ("ask", place, parts[::-1]), ("ask", place, (parts[0],) + parts)]
        ways += [("ask", place, parts + ((parts[-1][0] + 1, ("is", 0)),)), ("ask", place, ((-1, ("is", 0)),) + parts)]
        ways += [("ask", place, parts[:-1] + ((parts[-1][0] + 1, parts[-1][1]),))]
        ways += [("ask", place, parts[:-1] + ((HUGE, parts[-1][1]),))]
        ways += [("ask", place, ((parts[0][0], parts[1][1]), (parts[1][0], parts[0][1])) + parts[2:])]
        return ways

    def test_an_ask_that_parts_nothing(self):
        # Place 0 of a star is as far from all ends, and place 1 from all others.
        rest = ("ask", 1, ((0, ("is", (0, 1))), (1, ("is", (0, 2)))))
        self.assert_asks(star(3), "ties", rest, 1)
        self.assert_asks(star(3), "ties", ("ask", 0, ((0, rest),)), None)
        self.assert_asks(ALONE, "places", ("ask", 0, ((0, ("is", 0)),)), None)
        right = ("ask", 1, ((0, ("is", (0, 1))), (1, ("ask", 2, ((0, ("is", (0, 2))), (1, ("is", (0, 3))))))))
        again = ("ask", 1, ((0, ("is", (0, 1))), (1, ("ask", 1, ((1, right[2][1][1]),)))))
        self.assert_asks(star(4), "ties", right, 2)
        self.assert_asks(star(4), "ties", again, None)

    def test_ten_deep(self):
        plan = ("is", 0)
        for turn in range(10):
            plan = ("ask", 0, ((0, plan),))
        self.assert_asks(ALONE, "places", plan, None)
        self.assert_asks(row(3), "places", plan, None)

    def test_another_kinds_plan(self):
        for web, kind in asked():
            for other in KINDS:
                if 1 <= len(slow_things(web, other)) <= 8:
                    plan = fewest_asks(web, other)[1]
                    self.assert_asks(web, kind, plan, slow_asks(slow_fars(web), tuple(slow_things(web, kind)), plan))

    def test_too_many(self):
        for web, kind in TOO_MANY:
            for plan in (("is", 0), ("is", (0, 1)), ("ask", 0, ()), ("ask", 99, ((5, ("is", 7)),))):
                self.assert_refused(TooMany, plan_asks, web, kind, plan)


class TableShowsTest(Trial):

    def assert_shows(self, web, kind, asks, rows, wished):
        before = copy.deepcopy(rows)
        told = table_shows(web, kind, asks, rows)
        self.assertIs(told, wished, (web, kind, asks, rows))
        self.assertEqual(rows, before)

    def test_told_tables_for_their_number_and_lesser_ones(self):
        draw = random.Random(3)
        for web, kind in asked():
            asks, plan, rows = fewest_asks(web, kind)
            draw.shuffle(rows)
            for number in (-HUGE, -2, -1, 0, 1, 2, 3, 4, 5, 6, 7, 8, HUGE):
                self.assert_shows(web, kind, number, rows, number <= asks)

    def test_more_rows_than_needed(self):
        for web, kind in asked()[::3]:
            asks, plan, rows = fewest_asks(web, kind)
            table, things = slow_fars(web), slow_things(web, kind)
            lists = [some for count in range(1, len(things) + 1) for some in itertools.combinations(things, count)]
            every = [(some, slow_least(table, some)) for some in lists]
            self.assert_shows(web, kind, asks, every, True)
            self.assert_shows(web, kind, asks + 1, every, False)
            self.assert_shows(web, kind, asks, every[::-1], True)
            lower = [(some, max(0, least - 1)) for some, least in every]
            self.assert_shows(web, kind, asks, lower, asks == 0)
            self.assert_shows(web, kind, asks - 1, lower, True)

    def test_small_tables(self):
        self.assert_shows(row(3), "places", 1, [((0, 1, 2), 1)], True)
        self.assert_shows(row(3), "places", 0, [((0, 1, 2), 0)], True)
        self.assert_shows(row(3), "places", 1, [((0, 1, 2), 0)], False)
        self.assert_shows(row(3), "places", 2, [((0, 1, 2), 2)], False)
        self.assert_shows(row(3), "places", 0, [], False)
        self.assert_shows(row(3), "places", -1, [((0, 1), 1), ((1, 2), 1), ((0, 2), 1)], False)
        self.assert_shows(whole(3), "places", 2, [((0, 1, 2), 2), ((0, 1), 1), ((0, 2), 1), ((1, 2), 1)], True)
        self.assert_shows(whole(3), "places", 2, [((0, 1, 2), 2), ((0, 1), 1), ((0, 2), 1)], False)
        self.assert_shows(whole(3), "places", 2, [((0, 1, 2), 2), ((0, 1), 1), ((0, 2), 1), ((1, 2), 0)], False)
        self.assert_shows(row(2), "ties", 0, [(((0, 1),), 0)], True)
        self.assert_shows(row(2), "ties", 1, [(((0, 1),), 1)], False)

    def test_a_thing_alone_has_no_least(self):
        for least in (1, 2, 3, HUGE, -1):
            self.assert_shows(ALONE, "places", 0, [((0,), least)], False)
            self.assert_shows(row(3), "places", 0, [((0, 1, 2), 1), ((1,), least)], False)
        self.assert_shows(row(3), "places", 0, [((0, 1, 2), 1), ((1,), 0)], True)

    def test_leasts_below_0(self):
        self.assert_shows(row(3), "places", -1, [((0, 1, 2), -1)], False)
        self.assert_shows(row(3), "places", 1, [((0, 1, 2), 1), ((0, 1), -1)], False)
        self.assert_shows(row(3), "places", 1, [((0, 1, 2), 1), ((0, 1), -HUGE)], False)

    def test_a_least_too_great(self):
        for web, kind in asked()[::2]:
            asks, plan, rows = fewest_asks(web, kind)
            table = slow_fars(web)
            for at, (some, least) in enumerate(rows):
                for more in (1, 2, HUGE):
                    wrong = rows[:at] + [(some, least + more)] + rows[at + 1:]
                    self.assert_shows(web, kind, asks, wrong, slow_shows(table, slow_things(web, kind), asks, wrong))
                    if least == slow_least(table, some):
                        self.assert_shows(web, kind, 0, wrong, False)

    def test_wrong_rows_beside_right_ones(self):
        for web, kind in asked()[::2]:
            asks, plan, rows = fewest_asks(web, kind)
            things = tuple(slow_things(web, kind))
            kept = [some for some, least in rows]
            for wrong in [(), (-1,), (web[0],), (HUGE,), ((1, 0),), ((0, 0),), ((0, HUGE),), things + things[:1],
                          things[:1] * 2, things[:1] + (web[0],)] + [things[::-1]] * (len(things) > 1):
                self.assertNotIn(wrong, kept)
                for least in (0, 1):
                    self.assert_shows(web, kind, asks, rows + [(wrong, least)], False)
                    self.assert_shows(web, kind, 0, [(wrong, least)] + rows, False)
            for some, least in rows:
                self.assert_shows(web, kind, asks, rows + [(some, least)], False)
                self.assert_shows(web, kind, asks, [(some, 0)] + rows, False)

    def test_things_of_another_kind(self):
        self.assert_shows(row(3), "places", 1, [((0, 1, 2), 1), (((0, 1),), 0)], False)
        self.assert_shows(row(3), "ties", 1, [(((0, 1), (1, 2)), 1), ((0,), 0)], False)
        self.assert_shows(row(3), "all", 1, [((0, 1, 2, (0, 1), (1, 2)), 1), ((0, (0, 1)), 1)], True)
        self.assert_shows(row(3), "all", 1, [((0, 1, 2, (0, 1), (1, 2)), 1), (((0, 1), 0), 1)], False)

    def test_no_row_of_all_things(self):
        for web, kind in asked():
            asks, plan, rows = fewest_asks(web, kind)
            things = tuple(slow_things(web, kind))
            others = [(some, least) for some, least in rows if some != things]
            for number in (-1, 0, asks):
                self.assert_shows(web, kind, number, others, False)
                self.assert_shows(web, kind, number, [], False)

    def test_a_row_left_out(self):
        for web, kind in asked()[::2]:
            asks, plan, rows = fewest_asks(web, kind)
            table, things = slow_fars(web), slow_things(web, kind)
            for at in range(len(rows)):
                fewer = rows[:at] + rows[at + 1:]
                for number in (asks, 0):
                    self.assert_shows(web, kind, number, fewer, slow_shows(table, things, number, fewer))

    def test_too_many(self):
        for web, kind in TOO_MANY:
            for rows in ([], [((0,), 0)], [((99,), -1)], [(tuple(slow_things(web, kind)), 0)]):
                self.assert_refused(TooMany, table_shows, web, kind, 0, rows)


if __name__ == "__main__":
    unittest.main()
