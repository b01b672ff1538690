"""Webs written and read."""

import random
import unittest

from farhail.errors import Apart, NoText, NoWeb
from farhail.texts import read_web, web_text
from farhail.webs import made_web
from tests.samples import Trial, chance_web, ring, row, sample_webs, star

WRONG_NUMBERS = (
    "", "00", "01", "007", "+1", "-1", "-0", "1.0", "1e0", "1_0", "0x1", "a", "one", "1000", "0000", "9999", "1-2",
    "1,",
    "60000000000000000000", "1\t", "\t1", "1\r", "1\u00b2", "\u0661", "\u00b2", "0 ", " 0", "~", "-",
)


class WebTextTest(Trial):

    def test_ordinary(self):
        self.assertEqual(web_text((1, ())), "places 1")
        self.assertEqual(web_text(row(2)), "places 2\ntie 0 1")
        self.assertEqual(web_text(ring(4)), "places 4\ntie 0 1\ntie 0 3\ntie 1 2\ntie 2 3")
        self.assertEqual(web_text(star(12)).split("\n")[-2:], ["tie 0 10", "tie 0 11"])

    def test_what_is_written_is_read_as_the_same_web(self):
        for web in sample_webs():
            text = web_text(web)
            self.assertIs(type(text), str)
            self.assertEqual(read_web(text), web)
            self.assertEqual(web_text(read_web(text)), text)
            self.assertEqual(text.split("\n"), [f"places {web[0]}"] + [f"tie {one} {other}" for one, other in web[1]])


class ReadWebTest(Trial):

    def test_ordinary(self):
        self.assertEqual(read_web("places 1"), (1, ()))
        self.assertEqual(read_web("places 3\ntie 2 1\ntie 1 0"), (3, ((0, 1), (1, 2))))
        self.assertEqual(read_web("places 60\n" + "\n".join(f"tie {at} 0" for at in range(59, 0, -1))), star(60))

    def test_any_order_and_either_end_first(self):
        draw = random.Random(1)
        for web in sample_webs():
            rows = [f"tie {one} {other}" if draw.randrange(2) else f"tie {other} {one}" for one, other in web[1]]
            draw.shuffle(rows)
            self.assertEqual(read_web("\n".join([f"places {web[0]}"] + rows)), web)

    def test_two_hundred_ties(self):
        web = chance_web(60, 160, 1)
        ties = list(web[1])
        for pair in [(one, other) for one in range(60) for other in range(one + 1, 60)]:
            if len(ties) < 200 and pair not in web[1]:
                ties.append(pair)
        text = "\n".join(["places 60"] + [f"tie {one} {other}" for one, other in ties])
        self.assertEqual(len(text.split("\n")), 201)
        self.assertEqual(read_web(text), made_web(60, ties))

    def assert_no_text(self, text, number):
        wrong = self.assert_refused(NoText, read_web, text)
        self.assertEqual(wrong.row, number, text)
        self.assertIs(type(wrong.row), int)

    def test_wrong_first_rows(self):
        for first in (
            "", " ", "places", "places ", " places 3", "places 3 ", "places  3", "Places 3", "PLACES 3", "place 3", "3",
            "places3", "places 3 3", "tie 0 1", "tie", "web 3", "places three", "places 3,", "places\t3", "3 places",
            "placess 3",
        ):
            self.assert_no_text(first, 0)
            self.assert_no_text(first + "\ntie 0 1\ntie 1 2", 0)
            self.assert_no_text(first + "\nnothing", 0)
        for word in WRONG_NUMBERS:
            self.assert_no_text(f"places {word}", 0)
            self.assert_no_text(f"places {word}\ntie 0 1", 0)

    def test_wrong_later_rows(self):
        rows = ["places 4", "tie 0 1", "tie 1 2", "tie 2 3"]
        for wrong in (
            "", " ", "tie", "tie 0", "tie 0 ", "tie 0 1 2", "tie 0 1 ", " tie 0 1", "tie  0 1", "tie 0  1", "tie 0-1",
            "Tie 0 1", "ties 0 1", "ti 0 1", "places 4", "places 1 2", "untie 0 1", "0 1", "tie a b", "look 0",
            "tie0 1",
            "tie 0,1", "tie 0\t1",
        ):
            for at in range(1, 5):
                self.assert_no_text("\n".join(rows[:at] + [wrong] + rows[at:]), at)
                self.assert_no_text("\n".join(rows[:at] + [wrong, "", "places 4"] + rows[at:]), at)
        for word in WRONG_NUMBERS:
            self.assert_no_text(f"places 4\ntie 0 1\ntie 1 {word}\ntie", 2)
            self.assert_no_text(f"places 4\ntie 0 1\ntie {word} 1\ntie", 2)

    def test_line_ends_too_many(self):
        self.assert_no_text("", 0)
        self.assert_no_text("\n", 0)
        self.assert_no_text("\nplaces 1", 0)
        self.assert_no_text("places 1\n", 1)
        self.assert_no_text("places 2\n\ntie 0 1", 1)
        self.assert_no_text("places 2\ntie 0 1\n", 2)
        self.assert_no_text("places 2\ntie 0 1\n\n", 2)

    def test_no_text_goes_first(self):
        self.assert_no_text("places 0\nx", 1)
        self.assert_no_text("places 999\ntie 0 0\ntie 0 0\ntie 1", 3)
        self.assert_no_text("places 4\ntie 0 1\nplaces 4", 2)

    def test_no_web(self):
        for text in (
            "places 0", "places 61", "places 999", "places 61\ntie 0 1", "places 2\ntie 0 2", "places 2\ntie 999 0",
            "places 2\ntie 0 0", "places 2\ntie 0 1\ntie 0 1", "places 2\ntie 0 1\ntie 1 0", "places 1\ntie 0 0",
            "places 3\ntie 0 1\ntie 1 0",
        ):
            self.assert_refused(NoWeb, read_web, text)

    def test_apart(self):
        for text, place in (
            ("places 2", 1), ("places 60", 1), ("places 3\ntie 0 1", 2), ("places 3\ntie 2 0", 1),
            ("places 4\ntie 2 3", 1),
            ("places 5\ntie 0 4\ntie 4 1\ntie 3 2", 2),
        ):
            self.assertEqual(self.assert_refused(Apart, read_web, text).place, place)


if __name__ == "__main__":
    unittest.main()
