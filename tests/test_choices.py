"""The choices of fewest looks of trees, counted and numbered."""

import itertools
import random
import unittest

from farhail.choices import choice_by, choice_number, tree_choices, tree_fewest
from farhail.codes import is_known
from farhail.errors import NoSuch, NoTree, NotOne
from farhail.webs import made_web
from tests.samples import (
    HUGE, KINDS, Trial, all_looks, all_trees, chance_web, great_trees, renamed, ring, row, slow_fars, slow_known,
    slow_things, small_trees, spider, star, whole,
)

# Forks 0, 3 and 6: the middle one, 3, has no leg; the others have legs of 1, 2 and of 2, 1 places.
NO_LEG = made_web(16, [
    (0, 1), (0, 2), (2, 4), (0, 3), (3, 6), (6, 5), (5, 7), (6, 8), (3, 9), (9, 10), (9, 11), (11, 12), (12, 13),
    (9, 14), (14, 15)])


def slow_choices(web, kind):
    """All choices of fewest looks, found by trying all."""
    table = slow_fars(web)
    things = slow_things(web, kind)
    for count in range(web[0] + 1):
        choices = [list(looks) for looks in itertools.combinations(range(web[0]), count)]
        known = [looks for looks in choices if slow_known(table, looks, things)]
        if known:
            return known


class ChoicesTest(Trial):

    def assert_choices(self, web, kind, wished):
        """Asks all four functions for just these choices, told in the order of lists."""
        self.assertEqual(wished, sorted(wished))
        self.assertEqual(tree_fewest(web, kind), len(wished[0]), (web, kind))
        self.assertEqual(tree_choices(web, kind), len(wished), (web, kind))
        self.assertEqual([choice_by(web, kind, at) for at in range(len(wished))], wished, (web, kind))
        self.assertEqual([choice_number(web, kind, looks) for looks in wished], list(range(len(wished))), (web, kind))
        self.assert_refused(NoSuch, choice_by, web, kind, -1)
        self.assert_refused(NoSuch, choice_by, web, kind, len(wished))

    def test_one_place(self):
        for kind in KINDS:
            self.assert_choices((1, ()), kind, [[]])

    def test_two_places(self):
        self.assert_choices(row(2), "places", [[0], [1]])
        self.assert_choices(row(2), "ties", [[]])
        self.assert_choices(row(2), "all", [[0, 1]])

    def test_trees_without_a_fork(self):
        for many in (3, 4, 9, 40, 60):
            for kind in ("places", "ties"):
                self.assert_choices(row(many), kind, [[0], [many - 1]])
            self.assert_choices(row(many), "all", [[0, many - 1]])
        web = made_web(5, [(3, 1), (1, 4), (4, 0), (0, 2)])
        self.assert_choices(web, "places", [[2], [3]])
        self.assert_choices(web, "ties", [[2], [3]])
        self.assert_choices(web, "all", [[2, 3]])

    def test_stars(self):
        for many in (4, 7, 40, 60):
            ends = list(range(1, many))
            but_one = sorted(ends[:at] + ends[at + 1:] for at in range(many - 1))
            self.assert_choices(star(many), "places", but_one)
            self.assert_choices(star(many), "ties", but_one)
            self.assert_choices(star(many), "all", [ends])

    def test_a_look_anywhere_in_a_leg(self):
        web = spider((2, 1, 1))
        self.assert_choices(web, "places", [[1, 3], [1, 4], [2, 3], [2, 4], [3, 4]])
        self.assert_choices(web, "ties", [[1, 3], [1, 4], [2, 3], [2, 4], [3, 4]])
        self.assert_choices(web, "all", [[2, 3, 4]])

    def test_forks_without_a_leg(self):
        for kind in ("places", "ties"):
            self.assertEqual(tree_fewest(NO_LEG, kind), 1 + 1 + 2)
            # 1 and 2, 4; 5, 7 and 8; 10 and 11, 12, 13 and 14, 15.
            self.assertEqual(tree_choices(NO_LEG, kind), (1 + 2) * (2 + 1) * (1 * 3 + 1 * 2 + 3 * 2))
            self.assertEqual(choice_by(NO_LEG, kind, 0), [1, 5, 10, 11])
            self.assertEqual(choice_by(NO_LEG, kind, 98), [4, 8, 13, 15])
        self.assert_choices(NO_LEG, "all", [[1, 4, 7, 8, 10, 13, 15]])

    def test_a_fork_with_one_leg(self):
        # Place 2 is a fork with the one leg 5, which has no look in it.
        web = made_web(10, [(0, 1), (0, 3), (0, 2), (2, 5), (2, 4), (4, 6), (4, 7), (7, 8), (5, 9)])
        looks = [[1, 6], [1, 7], [1, 8], [3, 6], [3, 7], [3, 8]]
        self.assert_choices(web, "places", looks)
        self.assert_choices(web, "ties", looks)
        self.assert_choices(web, "all", [[1, 3, 6, 8, 9]])

    def test_all_by_trying_all(self):
        for web in small_trees():
            for kind in KINDS:
                self.assert_choices(web, kind, slow_choices(web, kind))

    def test_all_trees_of_six_places(self):
        for web in all_trees(6)[::5]:
            for kind in ("places", "ties"):
                self.assert_choices(web, kind, slow_choices(web, kind))

    def test_numbers_behind_each_other(self):
        for web in (NO_LEG, renamed(NO_LEG, 1), renamed(spider((3, 3, 2, 2)), 2), chance_web(20, 0, 2)):
            for kind in ("places", "ties"):
                looks = [choice_by(web, kind, at) for at in range(tree_choices(web, kind))]
                self.assert_choices(web, kind, looks)
                for choice in looks:
                    self.assertEqual(len(choice), tree_fewest(web, kind))
                    self.assertIs(is_known(web, choice, kind), True)

    def test_counts_of_sixty_places(self):
        for kind in ("places", "ties"):
            self.assertEqual(tree_fewest(star(60), kind), 58)
            self.assertEqual(tree_choices(star(60), kind), 59)
            self.assertEqual(tree_fewest(spider((3,) * 19 + (2,)), kind), 19)
            self.assertEqual(tree_choices(spider((3,) * 19 + (2,)), kind), 3 ** 19 + 19 * 3 ** 18 * 2)
            self.assertEqual(tree_choices(renamed(spider((3,) * 19 + (2,)), 5), kind), 3 ** 19 + 19 * 3 ** 18 * 2)
            self.assertEqual(tree_choices(renamed(row(60), 5), kind), 2)
            self.assertEqual(tree_choices(spider((20, 20, 19)), kind), 20 * 20 + 2 * 20 * 19)
        for web in great_trees():
            ends = [place for place in range(web[0]) if sum(place in tie for tie in web[1]) == 1]
            self.assertEqual(tree_fewest(web, "all"), len(ends))
            self.assertEqual(tree_choices(web, "all"), 1)
            self.assertEqual(choice_by(web, "all", 0), ends)
            self.assertEqual(choice_number(web, "all", ends), 0)

    def test_six_forks_of_sixty_places(self):
        # A row of six forks, each with three legs of three places.
        ties = [(at, at + 1) for at in range(5)]
        for leg in range(18):
            first = 6 + 3 * leg
            ties += [(leg // 3, first), (first, first + 1), (first + 1, first + 2)]
        web = made_web(60, ties)
        for kind in ("places", "ties"):
            for tree in (web, renamed(web, 6)):
                self.assertEqual(tree_fewest(tree, kind), 12)
                self.assertEqual(tree_choices(tree, kind), (3 * 3 ** 2) ** 6)
            self.assertEqual(choice_by(web, kind, 0), [at for at in range(6, 60) if at % 9 in (6, 0)])
            self.assertEqual(choice_by(web, kind, 27 ** 6 - 1), [at for at in range(6, 60) if at % 9 in (2, 5)])
            self.assertEqual(choice_by(web, kind, 27 ** 5 * 7), [7, 10] + choice_by(web, kind, 0)[2:])

    def test_there_and_back_in_forty_places(self):
        draw = random.Random(7)
        trees = [renamed(spider((3,) * 13), 1), renamed(spider((5, 6, 7, 8, 9, 4)), 2), renamed(star(40), 3)]
        trees += [chance_web(40, 0, seed) for seed in range(8)]
        for web in trees:
            for kind in KINDS:
                count = tree_choices(web, kind)
                numbers = {0, count - 1, count // 2} | {draw.randrange(count) for turn in range(8)}
                choices = [choice_by(web, kind, number) for number in sorted(numbers)]
                self.assertEqual(choices, sorted(choices))
                self.assertEqual([choice_number(web, kind, looks) for looks in choices], sorted(numbers))
                for looks in choices:
                    self.assertIs(is_known(web, looks, kind), True)
                    self.assertEqual(len(looks), tree_fewest(web, kind))
                for number in sorted(numbers)[:-1]:
                    self.assertLess(choice_by(web, kind, number), choice_by(web, kind, number + 1))

    def test_no_such(self):
        for web in [(1, ()), row(2), row(7), star(6), NO_LEG, chance_web(40, 0, 3)]:
            for kind in KINDS:
                count = tree_choices(web, kind)
                for number in (-1, -2, -count, -HUGE, count, count + 1, 2 * count, HUGE):
                    self.assert_refused(NoSuch, choice_by, web, kind, number)

    def test_none_of_the_choices(self):
        for web in [(1, ()), row(2), row(3), star(4), spider((2, 1, 1)), spider((2, 2, 1)), chance_web(7, 0, 71)]:
            for kind in KINDS:
                choices = slow_choices(web, kind)
                for looks in all_looks(web[0]):
                    if looks not in choices:
                        before = list(looks)
                        self.assert_refused(NotOne, choice_number, web, kind, looks)
                        self.assertEqual(looks, before)
                for looks in choices:
                    self.assert_spoilt(web, kind, looks)

    def assert_spoilt(self, web, kind, looks):
        """Asks that a choice is refused where it doesn't rise, has a place twice or a number that is no place."""
        spoilt = [looks + [web[0]], looks + [-1], [-1] + looks, looks + [HUGE], [-HUGE] + looks, looks + [9 * web[0]]]
        for at, look in enumerate(looks):
            spoilt += [looks[:at] + [look] + looks[at:], looks + [look], looks[:at] + looks[at + 1:]]
            spoilt += [looks[:at] + [wrong] + looks[at + 1:] for wrong in (-1, look - web[0], look + web[0], HUGE)]
        spoilt += [list(turned) for turned in itertools.permutations(looks) if list(turned) != looks]
        for wrong in spoilt:
            before = list(wrong)
            self.assert_refused(NotOne, choice_number, web, kind, wrong)
            self.assertEqual(wrong, before)

    def test_none_of_the_choices_of_great_trees(self):
        web = renamed(spider((3,) * 13), 1)
        for kind in KINDS:
            looks = choice_by(web, kind, tree_choices(web, kind) // 3)
            others = [place for place in range(40) if place not in looks]
            for wrong in (looks[::-1], looks + [looks[-1]], looks[1:], looks + [40], [-1] + looks, [], [HUGE]):
                self.assert_refused(NotOne, choice_number, web, kind, wrong)
            for place in others:
                self.assert_refused(NotOne, choice_number, web, kind, sorted(looks + [place]))

    def test_no_tree_goes_first(self):
        for web in (ring(3), ring(40), whole(4), chance_web(9, 9, 1), chance_web(40, 40, 2)):
            for kind in KINDS:
                self.assert_refused(NoTree, tree_fewest, web, kind)
                self.assert_refused(NoTree, tree_choices, web, kind)
                for number in (0, 1, -1, HUGE):
                    self.assert_refused(NoTree, choice_by, web, kind, number)
                for looks in ([], [0], [0, 1], [1, 0], [0, 0], [-1], [HUGE]):
                    self.assert_refused(NoTree, choice_number, web, kind, looks)

    def test_told_lists_are_the_askers_own(self):
        for web, kind in ((star(6), "places"), (star(6), "all"), (row(5), "ties"), ((1, ()), "all")):
            for number in range(tree_choices(web, kind)):
                told = choice_by(web, kind, number)
                kept = list(told)
                self.assertEqual(choice_number(web, kind, told), number)
                self.assertEqual(told, kept)
                told.append(0)
                self.assertEqual(choice_by(web, kind, number), kept)


if __name__ == "__main__":
    unittest.main()
