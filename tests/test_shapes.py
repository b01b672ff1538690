"""Rows, rings and grids of any size."""

import copy
import itertools
import random
import unittest

from farhail.errors import NoCode
from farhail.shapes import (
    grid_known, grid_place, ring_choices, ring_far, ring_known, ring_place, ring_tie, row_known,
)
from tests.samples import (
    HUGE, KINDS, Trial, all_looks, grid, ring, row, slow_code, slow_fars, slow_known, slow_things,
)

GREAT = 10 ** 60


def clock_far(many, one, other):
    return min(abs(one - other), many - abs(one - other))


def clock_tie_far(many, place, tie):
    return min(clock_far(many, place, tie), clock_far(many, place, (tie + 1) % many))


def drawn_on(count, many, draw):
    """So many unlike places below many, rising."""
    places = set()
    while len(places) < count:
        places.add(draw.randrange(many))
    return sorted(places)


class RowTest(Trial):

    def assert_known(self, many, looks, kind, wished):
        before = list(looks)
        self.assertIs(row_known(many, looks, kind), wished, (many, looks, kind))
        self.assertEqual(looks, before)

    def test_all_looks_by_the_codes(self):
        for many in range(1, 9):
            web = row(many)
            table = slow_fars(web)
            for looks in all_looks(many):
                for kind in KINDS:
                    self.assert_known(many, looks, kind, slow_known(table, looks, slow_things(web, kind)))

    def test_one_place_and_two(self):
        for looks in ([], [0]):
            for kind in KINDS:
                self.assert_known(1, looks, kind, True)
        for looks, places, every in (([], False, False), ([0], True, False), ([1], True, False), ([0, 1], True, True)):
            self.assert_known(2, looks, "places", places)
            self.assert_known(2, looks, "ties", True)
            self.assert_known(2, looks, "all", every)

    def test_great_rows(self):
        for many in (GREAT, GREAT - 1, 10 ** 20, 1000):
            last = many - 1
            for kind in ("places", "ties"):
                for looks in ([0], [last], [1, 2], [0, last], [last - 2, last - 1], [many // 2, many // 2 + 1]):
                    self.assert_known(many, looks, kind, True)
                for looks in ([], [1], [last - 1], [many // 2], [(many - 1) // 2]):
                    self.assert_known(many, looks, kind, False)
            for looks in ([0, last], [0, 1, last], [0, last - 1, last], [0, 5, many // 2, last]):
                self.assert_known(many, looks, "all", True)
            for looks in ([], [0], [last], [0, last - 1], [1, last], [0, 1, 2, 3], [1, 2, last - 1]):
                self.assert_known(many, looks, "all", False)

    def test_twenty_looks(self):
        looks = [at * 10 ** 58 + 1 for at in range(20)]
        for kind in ("places", "ties"):
            self.assert_known(GREAT, looks, kind, True)
        self.assert_known(GREAT, looks, "all", False)
        self.assert_known(GREAT, [0] + looks[1:], "all", False)
        self.assert_known(GREAT, looks[:19] + [GREAT - 1], "all", False)
        self.assert_known(GREAT, [0] + looks[1:19] + [GREAT - 1], "all", True)


class RingKnownTest(Trial):

    def assert_known(self, many, looks, kind, wished):
        before = list(looks)
        self.assertIs(ring_known(many, looks, kind), wished, (many, looks, kind))
        self.assertEqual(looks, before)

    def test_all_looks_by_the_codes(self):
        for many in range(3, 10):
            web = ring(many)
            table = slow_fars(web)
            for looks in all_looks(many):
                for kind in KINDS:
                    self.assert_known(many, looks, kind, slow_known(table, looks, slow_things(web, kind)))

    def test_few_looks_of_greater_rings_by_the_codes(self):
        for many in (12, 13, 16):
            web = ring(many)
            table = slow_fars(web)
            for looks in all_looks(many):
                if len(looks) > 3:
                    break
                for kind in KINDS:
                    self.assert_known(many, looks, kind, slow_known(table, looks, slow_things(web, kind)))

    def test_halves(self):
        for half in (2, 3, 500, GREAT // 2):
            for kind in ("places", "ties"):
                self.assert_known(2 * half, [0, half], kind, False)
                self.assert_known(2 * half, [half - 1, 2 * half - 1], kind, False)
                self.assert_known(2 * half, [0, half - 1], kind, True)
                self.assert_known(2 * half, [0, half + 1], kind, True)
                self.assert_known(2 * half, [0, 1, half], kind, True)
                self.assert_known(2 * half - 1, [0, half], kind, half > 1)
                self.assert_known(2 * half + 1, [0, half], kind, True)
                self.assert_known(2 * half + 1, [0, half + 1], kind, True)
                self.assert_known(2 * half, [half], kind, False)
                self.assert_known(2 * half, [], kind, False)

    def test_all_of_great_rings(self):
        for half in (10, 10 ** 30, GREAT // 2):
            for looks, wished in (
                    ([0, half, 2 * half - 1], True), ([0, 1, half], True), ([0, half, half + 1], True),
                    ([0, 1, half + 1], True), ([0, 1, half + 2], False), ([0, half + 1, half + 2], False),
                    ([0, 1, half - 1], False), ([1, half, half + 1], True), ([0, half], False), ([0], False),
                    ([], False), ([0, half - 2, half - 1], False), ([0, half // 2, half, half + half // 2], True)):
                self.assert_known(2 * half, looks, "all", wished)
            odd = 2 * half + 1
            for looks, wished in (
                    ([0, half, 2 * half], True), ([0, half, half + 1], True), ([0, 1, half + 1], True),
                    ([0, 1, half], False), ([0, half + 1, half + 2], False), ([0, half + 1, 2 * half], False)):
                self.assert_known(odd, looks, "all", wished)

    def test_twenty_looks(self):
        near = list(range(20))
        for kind in ("places", "ties"):
            self.assert_known(GREAT, near, kind, True)
        self.assert_known(GREAT, near, "all", False)
        self.assert_known(GREAT, [at * 10 ** 58 for at in range(20)], "all", False)
        self.assert_known(GREAT, [at * 5 * 10 ** 58 for at in range(20)], "all", True)
        self.assert_known(GREAT, near[:19] + [GREAT // 2], "all", True)
        self.assert_known(GREAT, near[:18] + [GREAT // 2, GREAT - 1], "all", True)
        self.assert_known(GREAT, near[:19] + [GREAT // 2 + 19], "all", False)
        self.assert_known(38, near, "all", True)
        self.assert_known(39, near, "all", False)


class RingFarTest(Trial):

    def test_all_of_small_rings(self):
        for many in range(3, 12):
            table = slow_fars(ring(many))
            for one, other in itertools.product(range(many), repeat=2):
                self.assertEqual(ring_far(many, one, other), table[one][other])

    def test_great_rings(self):
        for many in (GREAT, GREAT - 1):
            last = many - 1
            self.assertEqual(ring_far(many, 0, last), 1)
            self.assertEqual(ring_far(many, last, 0), 1)
            self.assertEqual(ring_far(many, last, last), 0)
            self.assertEqual(ring_far(many, 5, 7), 2)
            self.assertEqual(ring_far(many, 0, many // 2), many // 2)
            self.assertEqual(ring_far(many, many // 2, 0), many // 2)
            self.assertEqual(ring_far(many, 0, many // 2 + 1), many - many // 2 - 1)
        draw = random.Random(1)
        for turn in range(50):
            one, other = draw.randrange(GREAT), draw.randrange(GREAT)
            self.assertEqual(ring_far(GREAT, one, other), clock_far(GREAT, one, other))
            self.assertIs(type(ring_far(GREAT, one, other)), int)


class RingCodeTest(Trial):

    def assert_found(self, deed, many, looks, codes):
        """Asks for what has each code, and for a refusal of each other list of answers."""
        bounds = range(-1, many // 2 + 2)
        for told in itertools.product(bounds, repeat=len(looks)):
            handed = list(told)
            if told in codes:
                self.assertEqual(deed(many, looks, handed), codes[told], (many, looks, told))
            else:
                self.assert_refused(NoCode, deed, many, looks, handed)
            self.assertEqual(handed, list(told))

    def test_all_of_small_rings(self):
        for many in range(3, 8):
            table = slow_fars(ring(many))
            for looks in all_looks(many):
                if ring_known(many, looks, "places") and len(looks) < 4:
                    before = list(looks)
                    places = {tuple(slow_code(table, looks, place)): place for place in range(many)}
                    ends = [(tie, (tie + 1) % many) for tie in range(many)]
                    ties = {tuple(slow_code(table, looks, pair)): tie for tie, pair in enumerate(ends)}
                    self.assertEqual((len(places), len(ties)), (many, many))
                    self.assert_found(ring_place, many, looks, places)
                    self.assert_found(ring_tie, many, looks, ties)
                    self.assertEqual(looks, before)

    def test_each_place_by_all_looks(self):
        for many in (8, 9, 12):
            looks = list(range(many))
            for at in range(many):
                self.assertEqual(ring_place(many, looks, [clock_far(many, look, at) for look in looks]), at)
                self.assertEqual(ring_tie(many, looks, [clock_tie_far(many, look, at) for look in looks]), at)

    def drawn_looks(self, many, draw):
        looks = drawn_on(draw.choice((2, 3, 5, 20)), many, draw)
        return looks if ring_known(many, looks, "places") else [0] + looks[1:]

    def test_great_rings(self):
        draw = random.Random(2)
        for turn in range(100):
            many = draw.choice((GREAT, GREAT - 1, 10 ** 30 + 7, 1000))
            looks = self.drawn_looks(many, draw)
            for at in [draw.randrange(many) for time in range(3)] + [0, many - 1, looks[0], (looks[-1] - 1) % many]:
                code = [clock_far(many, look, at) for look in looks]
                self.assertEqual(ring_place(many, looks, code), at)
                tied = [clock_tie_far(many, look, at) for look in looks]
                self.assertEqual(ring_tie(many, looks, tied), at)
                self.assert_spoilt(ring_place, many, looks, code)
                self.assert_spoilt(ring_tie, many, looks, tied)

    def assert_spoilt(self, deed, many, looks, code):
        """Asks that answers below 0 or too great are refused at each look."""
        for at in range(len(code)):
            for wrong in (-1, -code[at] - 1, many // 2 + 1, many, many + code[at], code[at] - many, HUGE, -HUGE):
                told = code[:at] + [wrong] + code[at + 1:]
                kept = (list(looks), list(told))
                self.assert_refused(NoCode, deed, many, looks, told)
                self.assertEqual((looks, told), kept)

    def test_answers_of_no_place(self):
        many = GREAT
        self.assert_refused(NoCode, ring_place, many, [0, 10], [5, 6])
        self.assert_refused(NoCode, ring_place, many, [0, 10], [4, 4])
        self.assert_refused(NoCode, ring_place, many, [0, 10], [0, 9])
        self.assert_refused(NoCode, ring_place, many, [0, 10, 20], [5, 5, 5])
        self.assertEqual(ring_place(many, [0, 10, 20], [5, 5, 15]), 5)
        self.assertEqual(ring_place(many, [0, 10], [5, 15]), many - 5)
        self.assert_refused(NoCode, ring_tie, many, [0, 10], [5, 5])
        self.assert_refused(NoCode, ring_tie, many, [0, 10], [4, 4])
        self.assertEqual(ring_tie(many, [0, 10], [5, 4]), 5)
        self.assertEqual(ring_tie(many, [0, 10], [4, 14]), many - 5)
        self.assertEqual(ring_tie(many, [0, 10], [0, 10]), many - 1)
        self.assertEqual(ring_tie(many, [0, 10], [0, 9]), 0)
        self.assert_refused(NoCode, ring_tie, many, [0, 10, 20], [5, 4, 15])


class GridTest(Trial):

    def slow_grid(self, wide, high):
        """The table of fars of a grid, and its places as pairs in the order of their numbers."""
        return slow_fars(grid(wide, high)), list(itertools.product(range(wide), range(high)))

    def test_known_by_the_codes(self):
        for wide, high in itertools.product(range(2, 6), repeat=2):
            table, places = self.slow_grid(wide, high)
            for one, other in itertools.permutations(range(len(places)), 2):
                wished = slow_known(table, [one, other], range(len(places)))
                told = grid_known(wide, high, places[one], places[other])
                self.assertIs(told, wished, (wide, high, places[one], places[other]))

    def test_great_grids(self):
        wide, high = GREAT, GREAT - 1
        ends = [(0, 0), (wide - 1, 0), (0, high - 1), (wide - 1, high - 1)]
        for one, other in itertools.permutations(ends, 2):
            self.assertIs(grid_known(wide, high, one, other), one[0] == other[0] or one[1] == other[1])
        for one, other in (
                ((0, 0), (0, high - 2)), ((0, 1), (0, high - 1)), ((1, 0), (1, high - 1)), ((0, 0), (wide - 2, 0)),
                ((0, 0), (high - 1, 0)), ((0, 0), (0, 1)), ((1, 0), (wide - 1, 0)), ((0, 5), (wide - 1, 5)),
                ((wide - 2, 0), (wide - 2, high - 1)), ((3, 4), (5, 6)), ((0, 0), (1, high - 1))):
            self.assertIs(grid_known(wide, high, one, other), False)
            self.assertIs(grid_known(wide, high, other, one), False)
        self.assertIs(grid_known(2, GREAT, (1, 0), (0, 0)), True)
        self.assertIs(grid_known(2, GREAT, (0, 7), (1, 7)), False)

    def test_place_of_each_code(self):
        for wide, high in itertools.product(range(2, 6), repeat=2):
            table, places = self.slow_grid(wide, high)
            for one, other in itertools.permutations(range(len(places)), 2):
                if grid_known(wide, high, places[one], places[other]):
                    codes = {(table[one][at], table[other][at]): places[at] for at in range(len(places))}
                    self.assertEqual(len(codes), len(places))
                    self.assert_found(wide, high, places[one], places[other], codes)

    def assert_found(self, wide, high, one, other, codes):
        for told in itertools.product(range(-2, wide + high + 2), repeat=2):
            handed = list(told)
            if told in codes:
                place = grid_place(wide, high, one, other, handed)
                self.assertEqual(place, codes[told])
                self.assertIs(type(place), tuple)
            else:
                self.assert_refused(NoCode, grid_place, wide, high, one, other, handed)
            self.assertEqual(handed, list(told))

    def test_place_in_great_grids(self):
        draw = random.Random(3)
        for turn in range(60):
            wide, high = draw.choice(((GREAT, GREAT), (2, GREAT), (GREAT, 2), (GREAT - 1, 10 ** 30), (77, 10 ** 9)))
            ends = list(itertools.product((0, wide - 1), (0, high - 1)))
            for one, other in itertools.permutations(ends, 2):
                if one[0] == other[0] or one[1] == other[1]:
                    x, y = draw.randrange(wide), draw.randrange(high)
                    told = [abs(x - end[0]) + abs(y - end[1]) for end in (one, other)]
                    self.assertEqual(grid_place(wide, high, one, other, told), (x, y))
                    self.assert_spoilt(wide, high, one, other, told)

    def assert_spoilt(self, wide, high, one, other, told):
        first, second = told
        beyond = wide + high
        for wrong in (
                [first + 1, second], [first, second - 1], [-1, second], [first, -1], [first + beyond, second + beyond],
                [beyond - 1, second], [HUGE, second], [first, HUGE], [-HUGE, -HUGE], [HUGE, HUGE], [0, 0]):
            kept = copy.deepcopy(wrong)
            self.assert_refused(NoCode, grid_place, wide, high, one, other, wrong)
            self.assertEqual(wrong, kept)


class RingChoicesTest(Trial):

    def slow_count(self, many, kind):
        web = ring(many)
        table = slow_fars(web)
        things = slow_things(web, kind)
        for count in range(many + 1):
            known = [looks for looks in itertools.combinations(range(many), count) if slow_known(table, looks, things)]
            if known:
                self.assertEqual(count, 3 if kind == "all" else 2)
                return len(known)

    def test_all_of_small_rings(self):
        for many in range(3, 14):
            for kind in KINDS:
                self.assertEqual(ring_choices(many, kind), self.slow_count(many, kind), (many, kind))

    def gone_on(self, counts, steps):
        """The value so many steps on from the first of the counts, which grow as a sum of powers does."""
        total, times = 0, 1
        for order in range(len(counts)):
            total += times * counts[0]
            times = times * (steps - order) // (order + 1)
            counts = [after - count for count, after in zip(counts, counts[1:])]
        return total

    def test_great_rings(self):
        for kind in KINDS:
            for first in (4, 5):
                counts = [self.slow_count(many, kind) for many in range(first, first + 10, 2)]
                for steps in (4, 20, 10 ** 20, (GREAT - first) // 2):
                    self.assertEqual(ring_choices(first + 2 * steps, kind), self.gone_on(counts, steps))

    def test_told_numbers(self):
        self.assertEqual(ring_choices(GREAT, "places"), GREAT * (GREAT - 2) // 2)
        self.assertEqual(ring_choices(GREAT - 1, "ties"), (GREAT - 1) * (GREAT - 2) // 2)
        self.assertEqual([ring_choices(3, kind) for kind in KINDS], [3, 3, 1])
        self.assertEqual([ring_choices(4, kind) for kind in KINDS], [4, 4, 4])


if __name__ == "__main__":
    unittest.main()
