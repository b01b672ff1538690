"""Shares of looks and prices of pairs that come to one sum, so that no shares come to less."""

from farhail.errors import TooMany
from farhail.pairs import pairs_of, unlike_pairs

MOST_SHARED = 7


def refuse_too_many(web):
    """Refuses a web with too many places."""
    if web[0] > MOST_SHARED:
        raise TooMany(f"shares are told of webs with at most {MOST_SHARED} places")


def shares_of(web, kind):
    """A tuple (bottom, shares, prices) for the things of a kind."""
    refuse_too_many(web)
    pairs = unlike_pairs(pairs_of(web, kind))
    bottom, base, rows = best_prices(pairs, web[0])
    goal = rows[-1]
    shares = goal[len(pairs):-1]
    # A column behind those of the pairs is what a place has left, and no price.
    priced = [(at, line[-1]) for at, line in zip(base, rows) if at < len(pairs)]
    prices = [(pairs[at][0], pairs[at][1], price) for at, price in priced if price > 0]
    return (bottom, shares, prices)


def first_rows(pairs, many):
    """A row for each place, and one for the goal: a column for each pair, one for what each place has left, sums."""
    rows = []
    for place in range(many):
        parted = [1 if place in parters else 0 for one, other, parters in pairs]
        left = [1 if place == another else 0 for another in range(many)]
        rows.append(parted + left + [1])
    return rows + [[-1] * len(pairs) + [0] * (many + 1)]


def best_prices(pairs, many):
    """The greatest sum of prices, by the simplex method: the bottom, each place's column, and the rows by bottom."""
    rows = first_rows(pairs, many)
    base = [len(pairs) + place for place in range(many)]
    bottom = 1
    while min(rows[-1][:-1]) < 0:
        # The first column that gains, and of equal rows the one of the first column: so it never goes round (Bland).
        column = [at for at, gain in enumerate(rows[-1][:-1]) if gain < 0][0]
        place = tightest(rows, base, column)
        rows = turned(rows, bottom, place, column)
        bottom = rows[place][column]
        base[place] = column
    return (bottom, base, rows)


def tightest(rows, base, column):
    """The place that first has nothing left where the price of the column's pair grows."""
    best = None
    for place in range(len(base)):
        if rows[place][column] > 0 and (best is None or is_tighter(rows, base, column, place, best)):
            best = place
    return best


def is_tighter(rows, base, column, place, best):
    """Whether a place has nothing left ahead of the best one till now, by sum and part, both taken crosswise."""
    mine = rows[place][-1] * rows[best][column]
    other = rows[best][-1] * rows[place][column]
    return mine < other or (mine == other and base[place] < base[best])


def turned(rows, bottom, place, column):
    """The rows with the column's pair priced by the place's row; each is whole, over the entry where both meet."""
    pivot = rows[place]
    after = []
    for at, line in enumerate(rows):
        if at == place:
            after.append(pivot)
        else:
            # The division leaves no rest: each entry over the bottom is a quotient of two determinants.
            after.append([
                (entry * pivot[column] - line[column] * mine) // bottom for entry, mine in zip(line, pivot)
            ])
    return after


def shares_judged(web, kind, bottom, shares, prices):
    """Whether shares and prices for the things of a kind are right by that bottom, and come to one sum."""
    refuse_too_many(web)
    pairs = pairs_of(web, kind)
    if bottom < 1 or len(shares) != web[0] or any([share < 0 for share in shares]):
        return False
    if any([sum([shares[place] for place in parters]) < bottom for one, other, parters in pairs]):
        return False
    parters_of_two = {(one, other): parters for one, other, parters in pairs}
    return prices_right(parters_of_two, web[0], bottom, prices) and sum(shares) == sum([row[2] for row in prices])


def prices_right(parters_of_two, many, bottom, prices):
    """Whether prices stand by unlike pairs, and come to the bottom at most for each place."""
    priced = set()
    paid = [0] * many
    for one, other, price in prices:
        if price < 1 or (one, other) not in parters_of_two or (one, other) in priced:
            return False
        priced.add((one, other))
        for place in parters_of_two[(one, other)]:
            paid[place] += price
    return max(paid) <= bottom
