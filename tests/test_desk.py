"""A desk: its rows, what they answer, and which are refused."""

import itertools
import random
import unittest

from farhail.asks import fewest_asks
from farhail.codes import likes_by, parters_of
from farhail.desk import Desk
from farhail.errors import (
    Apart, HailError, NoBack, NoLooks, NoPlace, NoRow, NoText, NoThing, NotHeard, NoWeb, TooMany,
)
from farhail.fewest import fewest_looks
from farhail.heard import fitting_things, strength_of
from farhail.hunts import hunt_or_shelter
from farhail.texts import read_web, web_text
from farhail.webs import far_between, made_web
from tests.samples import (
    KINDS, Trial, chance_looks, chance_web, grid, ring, row, slow_code, slow_fars, slow_parters, slow_things,
    small_webs, spider, star, two_sided, whole,
)

WRONG_NUMBERS = (
    "", "00", "01", "000", "+1", "-1", "--", "1.0", "a", "1000", "0000", "9999", "1e2", "1_0", "0x1", "10000000000",
    "-0",
    "1\n", "\u0661", "\u00b2", "~", "*", "places", "0,1",
)
WRONG_THINGS = (
    "", "-", "0-", "-0", "0-0", "1-0", "1-1", "0--1", "0-1-2", "00", "01", "0-01", "00-1", "a", "0-a", "a-1", "1000",
    "0-1000", "0,1", "(0,1)", "0:1", "0_1", "+0", "999-0", "\u0661", "0-\u0661",
)
WRONG_KINDS = ("", "place", "tie", "any", "Places", "ALL", "all,", "0", "-", "places,ties", "kind", "looks")


def written(thing):
    return str(thing) if type(thing) is int else f"{thing[0]}-{thing[1]}"


def line(word, things):
    return " ".join([word] + [written(thing) for thing in things])


def tried():
    """Webs of every sort that all rows may be asked of, and some great ones."""
    webs = small_webs()[::2] + [row(4), ring(5), star(5), spider((2, 2, 1)), grid(2, 3)]
    return webs + [ring(12), grid(4, 5), chance_web(24, 12, 1), chance_web(20, 0, 2)]


def desk_of(web, looks=()):
    desk = Desk(web_text(web))
    for look in looks:
        desk.say(f"look {look}")
    return desk


class DeskTrial(Trial):

    def state(self, desk):
        return (desk.say("show"), desk.say("looks"))

    def assert_says(self, desk, asked, wished):
        told = desk.say(asked)
        self.assertEqual(told, wished, asked)
        self.assertIs(type(told), str)

    def assert_no(self, refusal, desk, asked):
        """Asks that a row is refused with just that class, and changes nothing."""
        before = self.state(desk)
        wrong = self.assert_refused(refusal, desk.say, asked)
        self.assertEqual(self.state(desk), before)
        return wrong


class MadeTest(DeskTrial):

    def test_at_first_no_looks(self):
        for web in tried():
            desk = Desk(web_text(web))
            self.assert_says(desk, "show", web_text(web))
            self.assert_says(desk, "looks", "looks")
            self.assert_no(NoBack, desk, "back")

    def test_made_of_a_text_in_any_order(self):
        desk = Desk("places 3\ntie 2 1\ntie 1 0")
        self.assert_says(desk, "show", "places 3\ntie 0 1\ntie 1 2")

    def test_refused_as_read_web_refuses(self):
        for text, refusal in (
            ("", NoText), ("places", NoText), ("places 2\n", NoText), ("places 2\ntie 0 1\nx", NoText),
            ("places 0", NoWeb),
            ("places 61", NoWeb), ("places 2\ntie 0 0", NoWeb), ("places 2\ntie 0 1\ntie 1 0", NoWeb),
            ("places 2", Apart), ("places 4\ntie 0 1\ntie 2 3", Apart),
        ):
            self.assert_refused(refusal, Desk, text)
        self.assertEqual(self.assert_refused(NoText, Desk, "places 2\ntie 0 1\nx").row, 2)
        self.assertEqual(self.assert_refused(Apart, Desk, "places 4\ntie 0 1\ntie 2 3").place, 2)

    def test_two_desks_of_one_text(self):
        text = "places 4\ntie 0 1\ntie 1 2\ntie 2 3"
        one, other = Desk(text), Desk(text)
        for asked in ("look 2", "tie 0 3", "untie 1 2", "look 0"):
            self.assert_says(one, asked, "ok")
        self.assertEqual(self.state(other), (text, "looks"))
        self.assert_no(NoBack, other, "back")
        self.assert_says(other, "look 3", "ok")
        self.assertEqual(self.state(one), ("places 4\ntie 0 1\ntie 0 3\ntie 2 3", "looks 0 2"))
        self.assert_says(other, "back", "ok")
        self.assertEqual(self.state(one), ("places 4\ntie 0 1\ntie 0 3\ntie 2 3", "looks 0 2"))


class DeedTest(DeskTrial):

    def test_tie_and_untie_either_end_first(self):
        desk = desk_of(row(4))
        self.assert_says(desk, "tie 3 0", "ok")
        self.assert_says(desk, "show", web_text(ring(4)))
        self.assert_says(desk, "untie 2 1", "ok")
        self.assert_says(desk, "show", "places 4\ntie 0 1\ntie 0 3\ntie 2 3")
        self.assert_says(desk, "tie 1 2", "ok")
        self.assert_says(desk, "untie 0 3", "ok")
        self.assert_says(desk, "show", web_text(row(4)))

    def test_look_and_unlook(self):
        desk = desk_of(ring(60))
        for asked, wished in (
            ("look 30", "looks 30"), ("look 4", "looks 4 30"), ("look 59", "looks 4 30 59"),
            ("look 0", "looks 0 4 30 59"),
            ("unlook 30", "looks 0 4 59"), ("look 10", "looks 0 4 10 59"), ("unlook 0", "looks 4 10 59"),
            ("unlook 59", "looks 4 10"), ("unlook 4", "looks 10"), ("unlook 10", "looks"),
        ):
            self.assert_says(desk, asked, "ok")
            self.assert_says(desk, "looks", wished)

    def test_looks_stay_where_ties_change(self):
        desk = desk_of(row(5), (1, 4))
        self.assert_says(desk, "tie 0 4", "ok")
        self.assert_says(desk, "untie 0 1", "ok")
        self.assert_says(desk, "looks", "looks 1 4")
        self.assert_says(desk, "far 0 1", "4")

    def test_back_behind_each_deed(self):
        for deed in ("tie 0 3", "untie 0 1", "look 3", "unlook 2"):
            desk = desk_of(made_web(4, [(0, 1), (1, 2), (2, 3), (0, 2)]), (0, 2))
            before = self.state(desk)
            self.assert_says(desk, deed, "ok")
            self.assertNotEqual(self.state(desk), before)
            self.assert_says(desk, "back", "ok")
            self.assertEqual(self.state(desk), before)

    def test_back_several_times_behind_refused_rows_and_questions(self):
        desk = desk_of(ring(5))
        states = [self.state(desk)]
        for deed in ("look 3", "tie 0 2", "look 0", "untie 3 4", "unlook 3", "look 1"):
            self.assert_says(desk, deed, "ok")
            states.append(self.state(desk))
            for asked in ("known all", "far 0 3", "strength places", "parters 0 1", "fewest places 1", "hunt 1"):
                desk.say(asked)
            for asked in ("look 9", "tie 0 0", "tie 0 1", "untie 1 4", "nonsense", "look", "heard all 0 0 0 0 0 0 0"):
                self.assertRaises(HailError, desk.say, asked)
        for state in states[-2::-1]:
            self.assert_says(desk, "back", "ok")
            self.assertEqual(self.state(desk), state)
        self.assert_no(NoBack, desk, "back")
        self.assert_no(NoBack, desk, "back")

    def test_back_and_forth(self):
        desk = desk_of(row(4))
        self.assert_says(desk, "look 1", "ok")
        self.assert_says(desk, "look 2", "ok")
        self.assert_says(desk, "back", "ok")
        self.assert_says(desk, "look 3", "ok")
        self.assert_says(desk, "looks", "looks 1 3")
        self.assert_says(desk, "back", "ok")
        self.assert_says(desk, "looks", "looks 1")
        self.assert_says(desk, "back", "ok")
        self.assert_says(desk, "looks", "looks")
        self.assert_no(NoBack, desk, "back")
        self.assert_says(desk, "look 0", "ok")
        self.assert_says(desk, "back", "ok")
        self.assert_no(NoBack, desk, "back")

    def test_many_deeds_by_chance(self):
        draw = random.Random(1)
        for web in (row(5), ring(6), chance_web(9, 5, 1), whole(4), (1, ())):
            desk, looks, past = desk_of(web), [], []
            for turn in range(120):
                one, other = draw.randrange(web[0]), draw.randrange(web[0])
                deed = draw.choice(("tie", "untie", "look", "unlook", "back"))
                ties = set(web[1])
                tie = (min(one, other), max(one, other))
                after = None
                if deed == "tie" and one != other and tie not in ties:
                    after = (made_web(web[0], sorted(ties | {tie})), looks)
                if deed == "untie" and tie in ties:
                    try:
                        after = (made_web(web[0], sorted(ties - {tie})), looks)
                    except Apart:
                        pass
                if deed == "look" and one not in looks:
                    after = (web, sorted(looks + [one]))
                if deed == "unlook" and one in looks:
                    after = (web, [look for look in looks if look != one])
                if deed == "back" and past:
                    web, looks = past.pop()
                    self.assert_says(desk, "back", "ok")
                elif after:
                    past.append((web, looks))
                    web, looks = after
                    self.assert_says(desk, f"{deed} {one} {other}" if "tie" in deed else f"{deed} {one}", "ok")
                else:
                    asked = "back" if deed == "back" else f"{deed} {one} {other}" if "tie" in deed else f"{deed} {one}"
                    self.assertRaises(HailError, desk.say, asked)
                self.assertEqual(self.state(desk), (web_text(web), line("looks", looks)))

    def test_two_hundred_ties(self):
        desk = desk_of(star(60))
        pairs = [(one, other) for one in range(1, 60) for other in range(one + 1, 60)][:141]
        for one, other in pairs:
            self.assert_says(desk, f"tie {other} {one}", "ok")
        self.assertEqual(len(read_web(desk.say("show"))[1]), 200)
        for pair in pairs:
            self.assert_says(desk, "back", "ok")
        self.assert_says(desk, "show", web_text(star(60)))


class QuestionTest(DeskTrial):

    def test_ordinary(self):
        desk = desk_of(row(5), (2,))
        for asked, wished in (
            ("far 0 4", "4"), ("far 4 0", "4"), ("far 3 3", "0"), ("known places", "no 0 4"),
            ("known ties", "no 0-1 3-4"),
            ("known all", "no 0 4"), ("parters 1 3", "parters 0 1 3 4"), ("parters 1 1-2", "parters 2 3 4"),
            ("parters 1-2 1", "parters 2 3 4"), ("parters 0-1 3-4", "parters 0 1 3 4"), ("strength places", "0"),
            ("fewest places 1", "fewest 1"), ("fewest all 1", "fewest 2"), ("fewest all 2", "never"),
            ("fewest places 4", "fewest 5"), ("fewest places 5", "never"), ("heard places 0 1", "fits 1 3"),
            ("heard places 0 -", "fits 0 1 2 3 4"), ("heard places 0 3", "fits"), ("heard all 0 2", "fits 0 4"),
            ("heard ties 0 0", "fits 1-2 2-3"), ("heard ties 1 999", "fits 0-1 1-2 2-3 3-4"), ("asks places", "1"),
            ("hunt 1", "found 1"), ("looks", "looks 2"), ("show", "places 5\ntie 0 1\ntie 1 2\ntie 2 3\ntie 3 4"),
        ):
            self.assert_says(desk, asked, wished)
        self.assert_says(desk, "look 0", "ok")
        for asked, wished in (
            ("known places", "yes"), ("known ties", "yes"), ("known all", "no 2 2-3"), ("strength places", "1"),
            ("strength ties", "1"), ("strength all", "0"), ("looks", "looks 0 2"), ("heard all 0 3 1", "fits 3 3-4"),
        ):
            self.assert_says(desk, asked, wished)

    def test_one_place(self):
        desk = desk_of((1, ()))
        for asked, wished in (
            ("show", "places 1"), ("far 0 0", "0"), ("known places", "yes"), ("known ties", "yes"),
            ("known all", "yes"),
            ("strength places", "none"), ("strength ties", "none"), ("strength all", "none"),
            ("fewest all 9", "fewest 0"),
            ("heard places 0", "fits 0"), ("heard ties 0", "fits"), ("asks places", "0"), ("asks all", "0"),
            ("look 0", "ok"),
            ("looks", "looks 0"), ("heard all 0 0", "fits 0"), ("heard all 0 1", "fits"), ("heard all 1 1", "fits 0"),
        ):
            self.assert_says(desk, asked, wished)
        self.assert_no(TooMany, desk, "asks ties")
        self.assert_no(TooMany, desk, "hunt 1")

    def test_strength_none(self):
        desk = desk_of(row(2), (0,))
        self.assert_says(desk, "strength places", "1")
        self.assert_says(desk, "strength ties", "none")
        self.assert_says(desk, "strength all", "0")

    def test_heard_by_no_looks(self):
        desk = desk_of(row(3))
        self.assert_says(desk, "heard places 0", "fits 0 1 2")
        self.assert_says(desk, "heard all 999", "fits 0 1 2 0-1 1-2")
        self.assert_no(NotHeard, desk, "heard places 0 0")
        self.assert_no(NotHeard, desk, "heard places 0 -")

    def test_heard_too_many_and_too_few(self):
        desk = desk_of(row(4), (0, 3))
        self.assert_says(desk, "heard places 0 1 2", "fits 1")
        self.assert_says(desk, "heard places 0 - 2", "fits 1")
        self.assert_says(desk, "heard places 0 - -", "fits 0 1 2 3")
        self.assert_says(desk, "heard places 1 999 2", "fits 1")
        self.assert_says(desk, "heard places 0 999 2", "fits")
        for asked in ("heard places 0", "heard places 0 1", "heard ties 0 -", "heard all 5 1 2 3", "heard all 0 - - -"):
            self.assert_no(NotHeard, desk, asked)

    def test_fewest_of_each_strength(self):
        for web in (row(8), ring(7), whole(4), star(6)):
            desk = desk_of(web)
            for kind in KINDS:
                for strength in range(1, 10):
                    told = fewest_looks(web, kind, strength)
                    wished = "never" if told[0] == "never" else f"fewest {len(told[1])}"
                    self.assert_says(desk, f"fewest {kind} {strength}", wished)

    def test_hunts_by_one_to_three(self):
        for web, wished in ((row(4), "found 1,found 1,found 1"), (whole(4), "never,never,found 1"),
                            (star(7), "found 5,found 3,found 2"), (whole(7), "never,never,never")):
            told = [desk_of(web).say(f"hunt {many}") for many in (1, 2, 3)]
            self.assertEqual(",".join(told), wished)

    def answers(self, web, looks, kind, desk):
        """Rows about a kind, beside what the functions tell or refuse."""
        table, things = slow_fars(web), slow_things(web, kind)
        likes = likes_by(web, looks, kind)
        strength = strength_of(web, looks, kind)
        rows = [(f"known {kind}", line("no", likes[0]) if likes else "yes")]
        rows += [(f"strength {kind}", "none" if strength is None else str(strength))]
        for thing in things[:2]:
            heard = [None if at % 3 == 2 else far for at, far in enumerate(slow_code(table, looks, thing))]
            words = " ".join(["heard", kind, "1"] + ["-" if far is None else str(far) for far in heard])
            rows += [(words, line("fits", fitting_things(web, looks, kind, heard, 1)))]
        if web[0] < 8 and 1 <= len(things) <= 8:
            rows += [(f"asks {kind}", str(fewest_asks(web, kind)[0]))]
        else:
            self.assert_no(TooMany, desk, f"asks {kind}")
        if web[0] < 9:
            rows += [(f"fewest {kind} 1", f"fewest {len(fewest_looks(web, kind, 1)[1])}")]
        else:
            self.assert_no(TooMany, desk, f"fewest {kind} 1")
        return rows

    def hunt_answer(self, web, many):
        word, told = hunt_or_shelter(web, many)
        least = min([triple[2] for triple in told if word == "hunt" and len(triple[0]) == web[0]], default=None)
        return "never" if least is None else f"found {least}"

    def test_as_the_functions_tell(self):
        for at, web in enumerate(tried()):
            looks = chance_looks(web, at)
            desk = desk_of(web, looks)
            before = self.state(desk)
            for kind in KINDS:
                for asked, wished in self.answers(web, looks, kind, desk):
                    self.assert_says(desk, asked, wished)
                    self.assert_says(desk, asked, wished)
            for many in (1, 2, 3):
                if 2 <= web[0] <= 7:
                    self.assert_says(desk, f"hunt {many}", self.hunt_answer(web, many))
                else:
                    self.assert_no(TooMany, desk, f"hunt {many}")
            for one, other in itertools.islice(itertools.permutations(slow_things(web, "all"), 2), 0, 400, 17):
                wished = slow_parters(slow_fars(web), one, other)
                self.assertEqual(parters_of(web, one, other), wished)
                self.assert_says(desk, f"parters {written(one)} {written(other)}", line("parters", wished))
            for one, other in itertools.islice(itertools.product(range(web[0]), repeat=2), 0, 400, 7):
                self.assert_says(desk, f"far {one} {other}", str(far_between(web, one, other)))
            self.assertEqual(self.state(desk), before)

    def test_a_desk_of_the_text_shown_answers_alike(self):
        desk = desk_of(ring(6), (0, 2))
        for deed in ("tie 0 3", "untie 4 5", "look 5", "unlook 0"):
            self.assert_says(desk, deed, "ok")
        other = Desk(desk.say("show"))
        for look in desk.say("looks").split(" ")[1:]:
            self.assert_says(other, f"look {look}", "ok")
        for asked in (
            "show", "looks", "far 4 5", "known places", "known ties", "known all", "parters 0 5", "strength all",
            "strength places", "fewest all 1", "fewest places 2", "heard all 1 2 -", "asks places", "hunt 1", "hunt 2",
        ):
            self.assert_says(other, asked, desk.say(asked))


class NoRowTest(DeskTrial):

    def desk(self):
        desk = desk_of(row(4), (1,))
        desk.say("look 3")
        desk.say("back")
        return desk

    def assert_no_rows(self, rows):
        desk = self.desk()
        for asked in rows:
            self.assert_no(NoRow, desk, asked)
        self.assert_says(desk, "back", "ok")
        self.assert_says(desk, "looks", "looks")

    def test_no_text(self):
        self.assert_no_rows((None, 5, 0, True, b"show", ["show"], ("looks",), {}, ["look", "1"]))

    def test_first_words(self):
        self.assert_no_rows((
            "", " ", "\n", "shows", "Show", "SHOW", "places 4", "web", "help", "ties 0 1", "looking 1", "0", "-",
            "places",
            "tree", "likes places", "code 0", " show", "show\n", "\nshow", "look\t1", "ok", "fit places 0", "say show",
        ))

    def test_counts_of_words(self):
        self.assert_no_rows((
            "tie", "tie 0", "tie 0 1 2", "untie", "untie 0", "untie 0 1 2", "look", "look 0 1", "unlook", "unlook 1 1",
            "back 1", "back back", "show 0", "show all", "looks 0", "looks all", "far", "far 0", "far 0 1 2", "known",
            "known places ties", "parters", "parters 0", "parters 0 1 2", "strength", "strength all 1", "fewest",
            "fewest all", "fewest 1", "fewest all 1 1", "heard", "heard all", "heard 0", "heard 0 0", "asks",
            "asks all 1",
            "hunt", "hunt 1 1",
        ))

    def test_blanks(self):
        self.assert_no_rows((
            "show ", " show", "looks ", "back ", " back", "tie  0 1", "tie 0  1", "tie 0 1 ", " tie 0 1", "look  1",
            "look 1 ",
            "look ", "known ", "known  all", "known all ", "far 0 ", "far  0", "heard all 0 ", "heard all  0",
            "heard all 0  1",
            "hunt ", "hunt  1", "parters 0 ", "parters  0 1", "fewest all ", "fewest all 1 ",
        ))

    def test_numbers(self):
        for word in WRONG_NUMBERS:
            self.assert_no_rows((
                f"tie {word} 1", f"tie 1 {word}", f"untie {word} 1", f"untie 1 {word}", f"look {word}",
                f"unlook {word}",
                f"far {word} 1", f"far 1 {word}", f"fewest all {word}", f"heard all {word}", f"heard all {word} 1",
                f"heard all 0 {word}", f"heard all 0 1 {word}", f"heard all 0 {word} -", f"hunt {word}",
            ))
        self.assert_no_rows(("heard all -", "heard all - 0", "look -", "far - 0", "hunt -", "fewest all -", "tie - 1"))

    def test_strengths_and_numbers_of_looks(self):
        for number in (0, 10, 11, 99, 100, 999):
            self.assert_no_rows((f"fewest all {number}", f"fewest places {number}"))
        for number in (0, 4, 5, 9, 10, 33, 999):
            self.assert_no_rows((f"hunt {number}",))

    def test_kinds(self):
        for word in WRONG_KINDS:
            self.assert_no_rows((
                f"known {word}", f"strength {word}", f"fewest {word} 1", f"heard {word} 0", f"heard {word} 0 1",
                f"asks {word}",
            ))

    def test_things(self):
        for word in WRONG_THINGS:
            self.assert_no_rows((f"parters {word} 1", f"parters 1 {word}"))
            self.assert_no_rows((f"parters 0-1 {word}", f"parters {word} 2-3"))

    def test_two_like_things(self):
        self.assert_no_rows(("parters 0 0", "parters 3 3", "parters 0-1 0-1", "parters 0-2 0-2", "parters 99 99",
                             "parters 98-99 98-99"))

    def test_ahead_of_all_others(self):
        self.assert_no_rows((
            "tie 99 x", "tie x 99", "tie 0 0 0", "untie 99 x", "look 99 99", "far 99 x", "parters 99 x",
            "parters 0-2 x",
            "parters x 0-2", "parters 99-100 1-0", "back 0", "fewest all 0", "heard all x 0 0", "heard all 0 0 x",
            "hunt 4",
        ))
        great = desk_of(star(60))
        for asked in ("fewest all 0", "fewest kind 1", "asks kind", "hunt 0", "hunt 4", "heard kind 0", "heard all x"):
            self.assert_no(NoRow, great, asked)


class RefusedTest(DeskTrial):

    def test_no_place(self):
        for web in (row(4), ring(60), (1, ())):
            many = web[0]
            desk = desk_of(web, (0,))
            for number in (many, many + 1, 99, 100, 999):
                for asked in (
                    f"tie {number} 0", f"tie 0 {number}", f"tie {number} {number}", f"untie {number} 0",
                    f"untie 0 {number}",
                    f"untie {number} {number}", f"look {number}", f"unlook {number}", f"far {number} 0",
                    f"far 0 {number}",
                    f"far {number} {number}", f"parters {number} 0", f"parters 0 {number}", f"parters 0-{number} 0",
                    f"parters 0 0-{number}", f"parters {number} 0-{number}",
                ):
                    self.assert_no(NoPlace, desk, asked)

    def test_no_place_goes_ahead_of_no_thing(self):
        desk = desk_of(row(4))
        for asked in ("parters 0-2 4", "parters 4 0-2", "parters 0-2 0-4", "parters 0-4 0-2", "parters 1-3 2-99"):
            self.assert_no(NoPlace, desk, asked)

    def test_no_thing(self):
        desk = desk_of(row(4))
        for asked in (
            "parters 0-2 1", "parters 1 0-2", "parters 0-2 0-1", "parters 0-1 0-3", "parters 0-2 1-3", "untie 0 2",
            "untie 2 0",
            "untie 3 0", "untie 1 1", "untie 0 0",
        ):
            self.assert_no(NoThing, desk, asked)

    def test_tie(self):
        desk = desk_of(row(4))
        for asked in ("tie 0 0", "tie 3 3", "tie 0 1", "tie 1 0", "tie 2 3", "tie 3 2"):
            self.assert_no(NoWeb, desk, asked)
        self.assert_no(NoWeb, desk_of((1, ())), "tie 0 0")
        self.assert_says(desk, "tie 0 2", "ok")
        self.assert_no(NoWeb, desk, "tie 2 0")

    def test_untie(self):
        for web, asked, place in (
            (row(4), "untie 0 1", 1), (row(4), "untie 2 1", 2), (row(4), "untie 3 2", 3), (star(5), "untie 3 0", 3),
            (two_sided(1, 2), "untie 0 2", 2), (made_web(5, [(0, 4), (4, 2), (2, 1), (1, 3)]), "untie 2 4", 1),
        ):
            self.assertEqual(self.assert_no(Apart, desk_of(web), asked).place, place)

    def test_look_and_unlook(self):
        desk = desk_of(row(4), (1, 3))
        for asked in ("look 1", "look 3", "unlook 0", "unlook 2"):
            self.assert_no(NoLooks, desk, asked)
        self.assert_says(desk, "unlook 1", "ok")
        self.assert_no(NoLooks, desk, "unlook 1")
        self.assert_says(desk, "back", "ok")
        self.assert_no(NoLooks, desk, "look 1")

    def test_too_many(self):
        eight, nine = desk_of(ring(8)), desk_of(ring(9))
        for kind in KINDS:
            for strength in (1, 9):
                self.assert_no(TooMany, nine, f"fewest {kind} {strength}")
            self.assert_no(TooMany, eight, f"asks {kind}")
            self.assert_says(eight, f"fewest {kind} 9", "never")
        for many in (1, 2, 3):
            self.assert_no(TooMany, eight, f"hunt {many}")
            self.assert_no(TooMany, desk_of((1, ())), f"hunt {many}")
        seven = desk_of(whole(7))
        self.assert_says(seven, "asks places", "6")
        self.assert_no(TooMany, seven, "asks ties")
        self.assert_no(TooMany, seven, "asks all")

    def test_a_refused_row_is_not_taken_back(self):
        desk = desk_of(row(4))
        self.assert_says(desk, "look 2", "ok")
        for asked in ("look 2", "unlook 0", "tie 0 1", "tie 0 0", "untie 0 1", "untie 0 2", "look 9", "x", None):
            self.assertRaises(HailError, desk.say, asked)
        self.assert_says(desk, "back", "ok")
        self.assertEqual(self.state(desk), (web_text(row(4)), "looks"))
        self.assert_no(NoBack, desk, "back")


if __name__ == "__main__":
    unittest.main()
