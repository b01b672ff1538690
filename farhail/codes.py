"""Codes: things told apart by how far looks are from them."""

from farhail.errors import NoLooks, NoThing
from farhail.webs import fars_from, nearer_end


def things_of(web, kind):
    """The things of a kind ("places", "ties" or "all"), in its order."""
    many, ties = web
    places = [] if kind == "ties" else list(range(many))
    joins = [] if kind == "places" else list(ties)
    return places + joins


def are_looks(web, looks):
    """Whether whole numbers are unlike places of the web, rising."""
    last = -1
    for look in looks:
        if not last < look < web[0]:
            return False
        last = look
    return True


def refuse_wrong_looks(web, looks):
    """Refuses a list of whole numbers that doesn't rise, or has one that is no place."""
    if not are_looks(web, looks):
        raise NoLooks("looks are unlike places of the web, rising")


def is_thing(web, thing):
    """Whether a whole number is a place, or a pair a tie as it stands in the web."""
    if isinstance(thing, int):
        return 0 <= thing < web[0]
    return thing in web[1]


def refuse_no_thing(web, thing):
    """Refuses what is no thing of the web."""
    if not is_thing(web, thing):
        raise NoThing("a thing is no place and no tie of the web")


def thing_far(fars, thing):
    """How far a thing is from the place that the fars are told from."""
    if isinstance(thing, int):
        return fars[thing]
    return nearer_end(fars, thing)


def codes_of(web, looks, things):
    """The codes of things by looks, in the things' order."""
    rows = [fars_from(web, look) for look in looks]
    return [[thing_far(fars, thing) for fars in rows] for thing in things]


def code_of(web, looks, thing):
    """The code of a thing by looks."""
    refuse_wrong_looks(web, looks)
    refuse_no_thing(web, thing)
    return codes_of(web, looks, [thing])[0]


def far_rows(web):
    """For each place, in order, how far all places are from it."""
    return [fars_from(web, place) for place in range(web[0])]


def parters_by(rows, one, other):
    """All places that part two things, rising; the rows tell how far all places are from each one."""
    return [place for place, fars in enumerate(rows) if thing_far(fars, one) != thing_far(fars, other)]


def parters_of(web, one, other):
    """All places that part two unlike things, rising."""
    refuse_no_thing(web, one)
    refuse_no_thing(web, other)
    return parters_by(far_rows(web), one, other)


def likes_by(web, looks, kind):
    """The lists of two or more things of a kind that have one code by looks."""
    refuse_wrong_looks(web, looks)
    things = things_of(web, kind)
    alike = {}
    for thing, code in zip(things, codes_of(web, looks, things)):
        alike.setdefault(tuple(code), []).append(thing)
    return [group for group in alike.values() if len(group) > 1]


def is_known(web, looks, kind):
    """Whether no two things of a kind have one code by looks."""
    return not likes_by(web, looks, kind)
