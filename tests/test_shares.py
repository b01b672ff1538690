"""Shares and prices, told and judged."""

import copy
import itertools
import random
import unittest

from farhail.errors import TooMany
from farhail.fewest import fewest_looks
from farhail.shares import shares_judged, shares_of
from tests.samples import (
    HUGE, KINDS, Trial, all_webs, chance_web, grid, ring, row, slow_fars, slow_parters, slow_things, small_webs,
    star, whole,
)

ALONE = (1, ())


def shared_webs():
    return [web for web in small_webs() if web[0] < 8] + list(all_webs(5))[::17]


def slow_right(web, kind, bottom, shares, prices):
    """Whether shares and prices are as told, by the words of the point one by one."""
    table, things = slow_fars(web), slow_things(web, kind)
    parters = {pair: slow_parters(table, *pair) for pair in itertools.combinations(things, 2)}
    pairs = [(one, other) for one, other, price in prices]
    if bottom < 1 or len(shares) != web[0] or min(shares) < 0:
        return False
    if any(pair not in parters for pair in pairs) or len(set(pairs)) < len(pairs):
        return False
    if any(price < 1 for one, other, price in prices):
        return False
    if any(sum(shares[place] for place in row) < bottom for row in parters.values()):
        return False
    for place in range(web[0]):
        if sum(price for one, other, price in prices if place in parters[(one, other)]) > bottom:
            return False
    return sum(shares) == sum(price for one, other, price in prices)


class SharesOfTest(Trial):

    def assert_right(self, web, kind):
        told = shares_of(web, kind)
        self.assertIs(type(told), tuple)
        bottom, shares, prices = told
        self.assertIs(type(shares), list)
        self.assertIs(type(prices), list)
        for number in [bottom] + shares + [price for one, other, price in prices]:
            self.assertIs(type(number), int)
        for priced in prices:
            self.assertIs(type(priced), tuple)
        self.assertTrue(slow_right(web, kind, bottom, shares, prices), (web, kind, told))
        self.assertIs(shares_judged(web, kind, bottom, shares, prices), True)
        self.assertEqual(shares_of(web, kind), told)

    def test_webs_of_one_to_seven_places(self):
        for web in shared_webs():
            for kind in KINDS:
                self.assert_right(web, kind)

    def test_many_webs_of_six_and_seven_places(self):
        for seed in range(40):
            for kind in KINDS:
                self.assert_right(chance_web(6 + seed % 2, seed % 16, seed), kind)

    def test_less_than_two_things(self):
        for web, kind in ((ALONE, "places"), (ALONE, "ties"), (ALONE, "all"), (row(2), "ties")):
            bottom, shares, prices = shares_of(web, kind)
            self.assertGreaterEqual(bottom, 1)
            self.assertEqual(shares, [0] * web[0])
            self.assertEqual(prices, [])

    def assert_sum(self, web, kind, above, below):
        bottom, shares, prices = shares_of(web, kind)
        self.assertEqual(sum(shares) * below, above * bottom, (web, kind))

    def test_sums_told_one_by_one(self):
        for many in range(2, 8):
            self.assert_sum(row(many), "places", 1, 1)
            self.assert_sum(row(many), "all", 2, 1)
            self.assert_sum(star(many), "all", 2 if many == 2 else many - 1, 1)
        for many in range(3, 8):
            self.assert_sum(whole(many), "places", many, 2)
            self.assert_sum(star(many), "ties", 1 if many == 3 else many - 1, 1 if many == 3 else 2)
            self.assert_sum(ring(many), "places", many, many - 1 if many % 2 else many - 2)

    def test_no_more_than_the_fewest_looks(self):
        for web in shared_webs():
            for kind in KINDS:
                bottom, shares, prices = shares_of(web, kind)
                self.assertLessEqual(sum(shares), bottom * len(fewest_looks(web, kind, 1)[1]))

    def test_too_many_from_eight_places_on(self):
        for web in (row(8), ring(8), star(9), whole(8), grid(2, 4), grid(3, 3), star(60)):
            for kind in KINDS:
                self.assert_refused(TooMany, shares_of, web, kind)

    def test_what_is_told_is_the_askers_own(self):
        for web in (ALONE, row(2), ring(5), ring(7), whole(6), star(7)):
            for kind in KINDS:
                kept = copy.deepcopy(shares_of(web, kind))
                told = shares_of(web, kind)
                self.assert_own(told)
                told[1].append(5)
                told[1][0] += 1
                told[2].append((0, 1, 2))
                told[2].reverse()
                self.assertEqual(shares_of(web, kind), kept)


class SharesJudgedTest(Trial):

    def assert_judged(self, wished, web, kind, bottom, shares, prices):
        before = copy.deepcopy((shares, prices))
        told = shares_judged(web, kind, bottom, shares, prices)
        self.assertIs(told, wished, (web, kind, bottom, shares, prices))
        self.assertEqual((shares, prices), before)

    def test_told_times_any_number_in_any_order(self):
        draw = random.Random(1)
        for web in shared_webs()[::2]:
            for kind in KINDS:
                bottom, shares, prices = shares_of(web, kind)
                for times in (1, 2, 7, 10 ** 30, HUGE):
                    more = [(one, other, price * times) for one, other, price in prices]
                    draw.shuffle(more)
                    self.assert_judged(True, web, kind, bottom * times, [share * times for share in shares], more)

    def test_made_otherwise(self):
        self.assert_judged(True, row(2), "places", 1, [1, 0], [(0, 1, 1)])
        self.assert_judged(True, row(2), "places", 1, [0, 1], [(0, 1, 1)])
        self.assert_judged(True, row(2), "places", 5, [2, 3], [(0, 1, 5)])
        self.assert_judged(True, whole(3), "places", 2, [1, 1, 1], [(0, 1, 1), (0, 2, 1), (1, 2, 1)])
        self.assert_judged(True, row(2), "all", 1, [1, 1], [(0, (0, 1), 1), (1, (0, 1), 1)])
        self.assert_judged(True, ring(4), "places", 1, [1, 1, 0, 0], [(0, 2, 1), (1, 3, 1)])
        self.assert_judged(True, ring(4), "places", 2, [1, 1, 1, 1], [(1, 3, 2), (0, 2, 2)])

    def test_nothing_to_share(self):
        for web, kind in ((ALONE, "places"), (ALONE, "ties"), (ALONE, "all"), (row(2), "ties")):
            none = [0] * web[0]
            for bottom in (1, 2, HUGE):
                self.assert_judged(True, web, kind, bottom, none, [])
            self.assert_judged(False, web, kind, 0, none, [])
            self.assert_judged(False, web, kind, 1, [1] + none[1:], [])
            self.assert_judged(False, web, kind, 1, none, [(0, 0, 1)])
            self.assert_judged(False, web, kind, 1, none + [0], [])
            self.assert_judged(False, web, kind, 1, none[1:], [])

    def test_wrong_bottoms(self):
        for web in shared_webs():
            for kind in KINDS:
                bottom, shares, prices = shares_of(web, kind)
                for wrong in (0, -1, -bottom, -HUGE):
                    self.assert_judged(False, web, kind, wrong, shares, prices)
                if prices:
                    self.assert_judged(False, web, kind, bottom + 1, shares, prices)
                    self.assert_judged(False, web, kind, HUGE, shares, prices)
                    self.assert_judged(False, web, kind, bottom - 1, shares, prices)
                self.assert_judged(False, web, kind, 0, [0] * web[0], [])

    def test_wrong_shares(self):
        for web in shared_webs()[::3]:
            for kind in KINDS:
                bottom, shares, prices = shares_of(web, kind)
                self.assert_judged(False, web, kind, bottom, shares + [0], prices)
                self.assert_judged(False, web, kind, bottom, shares[:-1], prices)
                self.assert_judged(False, web, kind, bottom, [], prices)
                for at in range(web[0]):
                    for more in (1, -1, HUGE, -HUGE):
                        wrong = list(shares)
                        wrong[at] += more
                        self.assert_judged(False, web, kind, bottom, wrong, prices)

    def test_a_share_below_0_beside_right_sums(self):
        # All pairs have bottom and more, and the sums are alike: the share below 0 alone is wrong.
        self.assertFalse(slow_right(row(3), "places", 1, [2, -1, 0], [(0, 1, 1)]))
        self.assert_judged(False, row(3), "places", 1, [2, -1, 0], [(0, 1, 1)])
        self.assert_judged(True, row(3), "places", 1, [1, 0, 0], [(0, 1, 1)])

    def test_shares_that_come_to_less_for_one_pair(self):
        self.assert_judged(False, ring(4), "places", 2, [2, 0, 2, 0], [(0, 2, 2), (1, 3, 2)])
        self.assert_judged(False, row(3), "places", 1, [0, 1, 0], [(0, 1, 1)])

    def test_wrong_prices(self):
        for web in shared_webs()[::3]:
            for kind in KINDS:
                bottom, shares, prices = shares_of(web, kind)
                for at, (one, other, price) in enumerate(prices):
                    others = prices[:at] + prices[at + 1:]
                    for wrong in (0, -1, -price, price + 1, price - 1, HUGE, -HUGE):
                        self.assert_judged(False, web, kind, bottom, shares, others + [(one, other, wrong)])
                    self.assert_judged(False, web, kind, bottom, shares, others)
                    self.assert_judged(False, web, kind, bottom, shares, prices + [prices[at]])
                    self.assert_judged(False, web, kind, bottom, shares, others + [(other, one, price)])
                    self.assert_judged(False, web, kind, bottom, shares, others + [(one, one, price)])
                    for none in (-1, web[0], HUGE, (1, 0), (0, 0), (0, web[0]), (0, HUGE)):
                        self.assert_judged(False, web, kind, bottom, shares, others + [(one, none, price)])
                        self.assert_judged(False, web, kind, bottom, shares, others + [(none, other, price)])

    def test_prices_beside_right_sums(self):
        right = [(0, 1, 1), (0, 2, 1), (1, 2, 1)]
        self.assert_judged(True, whole(3), "places", 2, [1, 1, 1], right)
        # Each of these comes to 3 as well.
        for wrong in (
            [(0, 1, 3)], [(0, 1, 2), (0, 2, 1)], [(0, 1, 1), (0, 1, 1), (0, 2, 1)], [(1, 0, 1), (0, 2, 1), (1, 2, 1)],
            [(0, 1, 2), (0, 2, 2), (1, 2, -1)], right + [(0, 1, 0)], [(0, 1, 1), (0, 2, 2), (1, 2, 0)],
            [(0, 0, 3)], [(0, 3, 3)], [(0, 1, 1), (0, 2, 1), ((0, 1), (1, 2), 1)],
            [(0, 1, 1), (0, 2, 1), (2, (0, 1), 1)],
        ):
            self.assert_judged(False, whole(3), "places", 2, [1, 1, 1], wrong)

    def test_a_price_below_1_beside_right_sums(self):
        # Places 0 and 1 of a row of three have the same parters as 1 and 2, so all but the lesser price is right.
        self.assert_judged(True, row(3), "places", 2, [2, 0, 0], [(0, 1, 1), (1, 2, 1)])
        self.assert_judged(False, row(3), "places", 2, [2, 0, 0], [(0, 1, 2), (1, 2, 0)])
        self.assert_judged(False, row(3), "places", 2, [2, 0, 0], [(1, 2, 2), (0, 1, 0)])
        self.assert_judged(False, row(3), "places", 2, [2, 0, 0], [(0, 1, 3), (1, 2, -1)])
        self.assert_judged(False, row(3), "places", 2, [2, 0, 0], [(1, 2, -HUGE), (0, 1, HUGE + 2)])

    def test_a_price_told_in_two_halves(self):
        self.assert_judged(True, row(2), "places", 2, [1, 1], [(0, 1, 2)])
        self.assert_judged(False, row(2), "places", 2, [1, 1], [(0, 1, 1), (0, 1, 1)])

    def test_things_of_another_kind(self):
        self.assert_judged(True, row(3), "ties", 1, [1, 0, 0], [((0, 1), (1, 2), 1)])
        self.assert_judged(False, row(3), "places", 1, [1, 0, 0], [((0, 1), (1, 2), 1)])
        self.assert_judged(False, row(3), "ties", 1, [1, 0, 0], [(0, 1, 1)])
        self.assert_judged(False, row(3), "ties", 1, [1, 0, 0], [((1, 2), (0, 1), 1)])
        self.assert_judged(False, row(3), "ties", 1, [1, 0, 0], [((1, 0), (1, 2), 1)])
        self.assert_judged(False, row(3), "ties", 1, [1, 0, 0], [((0, 1), (2, 1), 1)])
        self.assert_judged(False, row(2), "all", 1, [1, 1], [((0, 1), 0, 1), (1, (0, 1), 1)])

    def test_sums_unlike(self):
        self.assert_judged(False, ring(4), "places", 2, [1, 1, 1, 1], [(0, 2, 2)])
        self.assert_judged(False, ring(4), "places", 2, [1, 1, 1, 2], [(0, 2, 2), (1, 3, 2)])
        self.assert_judged(False, ring(4), "places", 2, [2, 2, 2, 2], [(0, 2, 2), (1, 3, 2)])
        self.assert_judged(False, row(2), "places", 1, [1, 0], [])

    def test_chance_changes_as_the_words_have_it(self):
        draw = random.Random(2)
        right = 0
        for web in shared_webs()[::4]:
            for kind in KINDS:
                for turn in range(12):
                    bottom, shares, prices = shares_of(web, kind)
                    at, to = draw.randrange(web[0]), draw.randrange(web[0])
                    shares[at] += 1
                    shares[to] -= 1
                    if prices and draw.randrange(2):
                        draw.shuffle(prices)
                        one, other, price = prices.pop()
                        things = slow_things(web, kind)
                        prices.append((draw.choice(things), draw.choice(things), price))
                    wished = slow_right(web, kind, bottom, shares, prices)
                    self.assert_judged(wished, web, kind, bottom, shares, prices)
                    right += wished
        self.assertGreater(right, 10)

    def test_too_many_from_eight_places_on(self):
        for web in (row(8), ring(8), star(9), whole(20), star(60)):
            for kind in KINDS:
                for handed in ((1, [1] * web[0], []), (0, [], []), (-1, [0], [(0, 0, 0)])):
                    self.assert_refused(TooMany, shares_judged, web, kind, *handed)


if __name__ == "__main__":
    unittest.main()
