"""One that moves between looks: hunts that find it, and shelters in which it is never surely found."""

from farhail.codes import are_looks, far_rows
from farhail.errors import TooMany
from farhail.pairs import every_looks

FEWEST_HUNTED = 2
MOST_HUNTED = 7


def refuse_wrong_size(web):
    """Refuses a web of one place, and one with too many."""
    if not FEWEST_HUNTED <= web[0] <= MOST_HUNTED:
        raise TooMany(f"hunts are told of webs with from {FEWEST_HUNTED} to {MOST_HUNTED} places")


def standings_of(web):
    """All standings of two or more places."""
    return [tuple(places) for places in every_looks(web[0]) if len(places) > 1]


def looks_to_choose(web, many):
    """All looks, at most so many."""
    return [tuple(looks) for looks in every_looks(web[0]) if len(looks) <= many]


def leads_of(rows, standing, looks):
    """The standings to which the parts of two or more places lead; the rows tell how far all places are."""
    parts = {}
    for place in standing:
        parts.setdefault(tuple([rows[look][place] for look in looks]), []).append(place)
    return [moved(rows, part) for part in parts.values() if len(part) > 1]


def moved(rows, part):
    """The standing of all places of a part and their neighbours."""
    return tuple([place for place, fars in enumerate(rows) if min([fars[here] for here in part]) <= 1])


def hunt_or_shelter(web, many):
    """("hunt", hunt) by so many looks, or ("shelter", shelter) from them."""
    refuse_wrong_size(web)
    hunt = widest_hunt(web, many)
    found = [standing for standing, looks, turns in hunt]
    standings = standings_of(web)
    # Every standing is in the one of all places, so where that is found all are.
    if len(found) == len(standings):
        return ("hunt", hunt)
    return ("shelter", [standing for standing in standings if standing not in found])


def widest_hunt(web, many):
    """Tuples (standing, looks, turns) of all standings in which it is surely found, each in the fewest turns."""
    rows = far_rows(web)
    chosen = looks_to_choose(web, many)
    ways = {}
    for standing in standings_of(web):
        ways[standing] = [(looks, leads_of(rows, standing, looks)) for looks in chosen]
    hunt = []
    turns = 1
    fresh = next_tuples(ways, hunt, turns)
    while fresh:
        hunt += fresh
        turns += 1
        fresh = next_tuples(ways, hunt, turns)
    return hunt


def next_tuples(ways, hunt, turns):
    """The tuples with so many turns, of the standings that the hunt, which has all with fewer, hasn't."""
    found = {standing: True for standing, looks, fewer in hunt}
    tuples = []
    for standing, choices in ways.items():
        good = [looks for looks, leads in choices if all([lead in found for lead in leads])]
        if good and standing not in found:
            tuples.append((standing, good[0], turns))
    return tuples


def is_standing(web, places):
    """Whether whole numbers are two or more unlike places, rising."""
    return len(places) > 1 and are_looks(web, places)


def lies_in(standing, other):
    """Whether all places of a standing are in another."""
    return all([place in other for place in standing])


def hunt_judged(web, many, hunt):
    """Whether a list of triples is a hunt by so many looks."""
    refuse_wrong_size(web)
    for standing, looks, turns in hunt:
        if not is_standing(web, standing) or not are_looks(web, looks) or len(looks) > many or turns < 1:
            return False
    if tuple(range(web[0])) not in [standing for standing, looks, turns in hunt]:
        return False
    rows = far_rows(web)
    return all([is_turn_right(rows, hunt, triple) for triple in hunt])


def is_turn_right(rows, hunt, triple):
    """Whether each lead of a hunt's triple lies in the standing of one with fewer turns."""
    standing, looks, turns = triple
    nearer = [other for other, chosen, fewer in hunt if fewer < turns]
    return all([any([lies_in(lead, other) for other in nearer]) for lead in leads_of(rows, standing, looks)])


def shelter_judged(web, many, shelter):
    """Whether a list of tuples is a shelter from so many looks."""
    refuse_wrong_size(web)
    if not shelter or not all([is_standing(web, standing) for standing in shelter]):
        return False
    rows = far_rows(web)
    chosen = looks_to_choose(web, many)
    safe = {lead: any([lies_in(standing, lead) for standing in shelter]) for lead in standings_of(web)}
    return all([
        any([safe[lead] for lead in leads_of(rows, standing, looks)]) for standing in shelter for looks in chosen
    ])
