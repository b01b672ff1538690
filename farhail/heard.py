"""What is heard by looks: how strong they are, and which things fit where answers are lost or lies."""

from farhail.codes import codes_of, refuse_wrong_looks, things_of
from farhail.errors import NotHeard


def unlike_count(code, other):
    """At how many looks two codes are unlike."""
    return len([far for far, another in zip(code, other) if far != another])


def strength_of(web, looks, kind):
    """The least number of looks that part two things of a kind, None where the kind has not two."""
    refuse_wrong_looks(web, looks)
    codes = codes_of(web, looks, things_of(web, kind))
    counts = [unlike_count(code, other) for at, code in enumerate(codes) for other in codes[at + 1:]]
    return min(counts, default=None)


def most_strength(web, kind):
    """The strength of all places together, None where the kind has not two things."""
    return strength_of(web, things_of(web, "places"), kind)


def wrong_count(code, heard):
    """How many of the answers that aren't lost are unlike the code."""
    return len([far for far, answer in zip(code, heard) if answer is not None and answer != far])


def fitting_things(web, looks, kind, heard, lies):
    """The things of a kind, in order, that fit what is heard with so many lies."""
    refuse_wrong_looks(web, looks)
    if len(heard) != len(looks):
        raise NotHeard("for each look there is one answer, or None")
    things = things_of(web, kind)
    codes = codes_of(web, looks, things)
    return [thing for thing, code in zip(things, codes) if wrong_count(code, heard) <= lies]
