"""A desk: it keeps a web and looks, and answers rows that change them or ask of them."""

from farhail.asks import fewest_asks
from farhail.codes import likes_by, parters_of
from farhail.errors import NoBack, NoLooks, NoThing
from farhail.fewest import fewest_looks
from farhail.heard import fitting_things, strength_of
from farhail.hunts import hunt_or_shelter
from farhail.rows import read_row, thing_text
from farhail.texts import read_web, web_text
from farhail.webs import far_between, made_web


def line_of(word, things):
    """A word and the things behind it, written."""
    return " ".join([word] + [thing_text(thing) for thing in things])


def do_tie(web, looks, told):
    """The web with a tie more, and the looks."""
    return (made_web(web[0], list(web[1]) + [(told[0], told[1])]), looks)


def do_untie(web, looks, told):
    """The web with a tie less, and the looks."""
    tie = (min(told), max(told))
    if tie not in web[1]:
        raise NoThing("the web hasn't this tie")
    return (made_web(web[0], [other for other in web[1] if other != tie]), looks)


def do_look(web, looks, told):
    """The web, and the looks with one more."""
    if told[0] in looks:
        raise NoLooks("the look is there")
    return (web, sorted(looks + told))


def do_unlook(web, looks, told):
    """The web, and the looks with one less."""
    if told[0] not in looks:
        raise NoLooks("the look isn't there")
    return (web, [look for look in looks if look != told[0]])


def tell_show(web, looks, told):
    """The web, written."""
    return web_text(web)


def tell_looks(web, looks, told):
    """The looks."""
    return line_of("looks", looks)


def tell_far(web, looks, told):
    """How far two places are."""
    return str(far_between(web, told[0], told[1]))


def tell_known(web, looks, told):
    """Whether the things of a kind are known by the looks, and else the first that have one code."""
    likes = likes_by(web, looks, told[0])
    return line_of("no", likes[0]) if likes else "yes"


def tell_parters(web, looks, told):
    """The places that part two things."""
    return line_of("parters", parters_of(web, told[0], told[1]))


def tell_strength(web, looks, told):
    """The strength of the looks for a kind."""
    strength = strength_of(web, looks, told[0])
    return "none" if strength is None else str(strength)


def tell_fewest(web, looks, told):
    """How many looks have a strength."""
    found = fewest_looks(web, told[0], told[1])
    return "never" if found[0] == "never" else f"fewest {len(found[1])}"


def tell_heard(web, looks, told):
    """The things of a kind that fit what is heard by the looks."""
    return line_of("fits", fitting_things(web, looks, told[0], told[2:], told[1]))


def tell_asks(web, looks, told):
    """How many asks find a thing of a kind."""
    return str(fewest_asks(web, told[0])[0])


def tell_hunt(web, looks, told):
    """In how many turns one that moves is found by so many looks."""
    word, tuples = hunt_or_shelter(web, told[0])
    if word == "shelter":
        return "never"
    fewest = min([turns for standing, chosen, turns in tuples if len(standing) == web[0]])
    return f"found {fewest}"


DEEDS = {"tie": do_tie, "untie": do_untie, "look": do_look, "unlook": do_unlook}

ANSWERS = {
    "show": tell_show,
    "looks": tell_looks,
    "far": tell_far,
    "known": tell_known,
    "parters": tell_parters,
    "strength": tell_strength,
    "fewest": tell_fewest,
    "heard": tell_heard,
    "asks": tell_asks,
    "hunt": tell_hunt,
}


class Desk:
    """A web and looks, and what they were ahead of each deed that is not taken back."""

    def __init__(self, text):
        self.web = read_web(text)
        self.looks = []
        self.past = []

    def say(self, row):
        """The answer to a row; a refused one changes nothing."""
        word, told = read_row(row, self.web)
        if word == "back":
            return self.take_back()
        if word in DEEDS:
            deed = DEEDS[word]
            return self.go_on(deed(self.web, self.looks, told))
        answer = ANSWERS[word]
        return answer(self.web, self.looks, told)

    def go_on(self, after):
        """Keeps the web and looks behind a deed, and those ahead of it."""
        self.past.append((self.web, self.looks))
        self.web, self.looks = after
        return "ok"

    def take_back(self):
        """Takes the last deed back."""
        if not self.past:
            raise NoBack("nothing is left to be taken back")
        self.web, self.looks = self.past.pop()
        return "ok"
