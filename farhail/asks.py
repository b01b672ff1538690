"""Looks asked one by one: the fewest asks, the plan that has them and the table that shows them."""

from farhail.codes import far_rows, thing_far, things_of
from farhail.errors import TooMany

MOST_ASKED = 7
MOST_LEFT = 8


def things_to_ask(web, kind):
    """The things of a kind as a tuple; refuses too great a web, and a kind with none or too many things."""
    if web[0] > MOST_ASKED:
        raise TooMany(f"asks are told of webs with at most {MOST_ASKED} places")
    things = tuple(things_of(web, kind))
    if not 1 <= len(things) <= MOST_LEFT:
        raise TooMany(f"asks are told of kinds with from 1 to {MOST_LEFT} things")
    return things


def parts_by(fars, things):
    """Pairs (far, part): those of the things that give one answer, the answers rising."""
    parts = {}
    for thing in things:
        parts.setdefault(thing_far(fars, thing), []).append(thing)
    return [(far, tuple(parts[far])) for far in sorted(parts)]


def fewest_asks(web, kind):
    """A tuple (asks, plan, table) for all things of a kind."""
    things = things_to_ask(web, kind)
    rows = far_rows(web)
    leasts = {}
    note_least(rows, things, leasts)
    return (leasts[things], made_plan(rows, things, leasts), list(leasts.items()))


def note_least(rows, things, leasts):
    """Notes the fewest asks for the things, and for all that asks may leave of them."""
    if things in leasts:
        return
    counts = []
    for fars in rows:
        parts = [part for far, part in parts_by(fars, things)]
        # A look that parts nothing brings no one further.
        if len(parts) > 1:
            for part in parts:
                note_least(rows, part, leasts)
            counts.append(1 + max([leasts[part] for part in parts]))
    # Two things are always parted by some place, so only a thing alone leaves no counts.
    leasts[things] = min(counts, default=0)


def made_plan(rows, things, leasts):
    """A plan for the things with the fewest asks, as noted."""
    if len(things) == 1:
        return ("is", things[0])
    places = [place for place in range(len(rows)) if brings_on(rows[place], things, leasts)]
    parts = parts_by(rows[places[0]], things)
    return ("ask", places[0], tuple([(far, made_plan(rows, part, leasts)) for far, part in parts]))


def brings_on(fars, things, leasts):
    """Whether each answer to an ask leaves things that have fewer asks to go."""
    return all([leasts[part] < leasts[things] for far, part in parts_by(fars, things)])


def plan_asks(web, kind, plan):
    """The asks of a plan for all things of a kind, None of what is none."""
    things = things_to_ask(web, kind)
    return asks_of(far_rows(web), things, plan)


def asks_of(rows, things, plan):
    """The asks of a plan for the things, None of what is none."""
    if plan[0] == "is":
        return 0 if things == (plan[1],) else None
    word, place, branches = plan
    if not 0 <= place < len(rows):
        return None
    parts = parts_by(rows[place], things)
    if len(parts) == 1 or [far for far, branch in branches] != [far for far, part in parts]:
        return None
    counts = [asks_of(rows, part, branch) for (far, part), (told, branch) in zip(parts, branches)]
    return None if None in counts else 1 + max(counts)


def table_shows(web, kind, asks, table):
    """Whether a table shows that all things of a kind need so many asks."""
    things = things_to_ask(web, kind)
    leasts = {}
    for some, least in table:
        if some in leasts or not are_in_order(things, some):
            return False
        leasts[some] = least
    if things not in leasts or leasts[things] < asks:
        return False
    rows = far_rows(web)
    return all([is_least_shown(rows, some, leasts) for some in leasts])


def are_in_order(things, some):
    """Whether some are one or more of the things, each once, in their order."""
    return len(some) > 0 and list(some) == [thing for thing in things if thing in some]


def is_least_shown(rows, some, leasts):
    """Whether some things have the least of their row, as far as the other rows have theirs."""
    least = leasts[some]
    if least == 0:
        return True
    if least < 0 or len(some) == 1:
        return False
    return least == 1 or all([is_hard_answer(fars, some, leasts) for fars in rows])


def is_hard_answer(fars, some, leasts):
    """Whether an ask has an answer that leaves things whose row has one ask fewer, or no fewer."""
    # Where the ask parts nothing, the row itself is that row.
    return any([leasts.get(part, -1) >= leasts[some] - 1 for far, part in parts_by(fars, some)])
