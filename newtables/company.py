"""Who sits together and who apart, with told left neighbours."""

from math import factorial

from newtables.basics import check_guest, check_guests, check_weight, fraction, is_within, raised, rising
from newtables.errors import InvalidFacts, InvalidGuest, NoSeating
from newtables.rows import are_facts, hold_paper, rings_of, rows_of, told_lefts

MOST_PAIRS = 6


def company_paper(guests, rows, together, apart):
    """None if some seating has all this, else the kind and the index of what is too much."""
    check_guests(guests)
    check_company(guests, rows, together, apart)
    paper = hold_paper(guests, rows)
    if paper is not None:
        return paper
    lefts = told_lefts(guests, rows)
    for at, pair in enumerate(together):
        if tears_a_ring(lefts, pair):
            return ("together", at)
    groups = groups_by_pairs(lefts, together)
    for at, pair in enumerate(apart):
        if any([pair[0] in group and pair[1] in group for group in groups]):
            return ("apart", at)
    return None


def can_meet(guests, rows, together, apart):
    """Whether some seating has all this."""
    return company_paper(guests, rows, together, apart) is None


def company_weight(guests, weight, rows, together, apart):
    """What the seatings with all this weigh."""
    check_guests(guests)
    check_weight(weight)
    check_company(guests, rows, together, apart)
    return weight_apart(guests, weight, rows, together, apart)


def company_share(guests, weight, rows, together, apart):
    """The share of the seatings with all this."""
    return fraction(company_weight(guests, weight, rows, together, apart), rising(weight, guests))


def meet_share(guests, weight, rows, together, apart, guest, mate):
    """The share, of the seatings with all this, in which two guests sit together."""
    check_guests(guests)
    check_weight(weight)
    check_company(guests, rows, together, apart)
    check_guest(guest, guests)
    check_guest(mate, guests)
    if mate == guest:
        raise InvalidGuest("mate must be another guest")
    total = weight_apart(guests, weight, rows, together, apart)
    if total == 0:
        raise NoSeating("no seating has all rows and pairs")
    return fraction(weight_apart(guests, weight, rows, together + [(guest, mate)], apart), total)


def groups_of(guests, rows, together):
    """The ascending list of the groups, as ascending lists."""
    check_guests(guests)
    check_rows(rows, guests)
    check_pairs(together, guests, MOST_PAIRS)
    if weight_together(guests, 1, rows, together) == 0:
        raise NoSeating("no seating has all rows and pairs")
    return sorted([sorted(group) for group in groups_by_pairs(told_lefts(guests, rows), together)])


def check_company(guests, rows, together, apart):
    check_rows(rows, guests)
    check_pairs(together, guests, MOST_PAIRS)
    check_pairs(apart, guests, MOST_PAIRS - len(together))


def check_rows(rows, guests):
    if not are_facts(rows, guests) or not all([row[0] == "left" for row in rows]):
        raise InvalidFacts("rows must be a list of 0 to 40 unlike facts with the word left")


def check_pairs(pairs, guests, most):
    if not are_pairs(pairs, guests, most):
        raise InvalidFacts("pairs must be a list of tuples of two guests, none twice, at most 6 in both lists")


def are_pairs(thing, guests, most):
    """Whether any object is a list of pairs, at most so many and none twice."""
    if type(thing) != list or len(thing) > most or not all([is_pair(item, guests) for item in thing]):
        return False
    return len({(min(pair), max(pair)) for pair in thing}) == len(thing)


def is_pair(thing, guests):
    """Whether any object is a tuple of two unlike guests."""
    if type(thing) != tuple or len(thing) != 2:
        return False
    return all([is_within(guest, 0, guests - 1) for guest in thing]) and thing[0] != thing[1]


def tears_a_ring(lefts, pair):
    """Whether just one of two guests is in one of the rings."""
    return any([(pair[0] in ring) != (pair[1] in ring) for ring in rings_of(lefts)])


def groups_by_pairs(lefts, pairs):
    """The groups of those who hang together by rows, rings and pairs."""
    groups = rows_of(lefts) + rings_of(lefts)
    for first, second in pairs:
        hanging = [group for group in groups if first in group or second in group]
        others = [group for group in groups if first not in group and second not in group]
        groups = others + [[guest for group in hanging for guest in group]]
    return groups


def weight_apart(guests, weight, rows, together, apart):
    """What the seatings weigh that have the rows, the pairs together and the pairs apart."""
    if len(apart) == 0:
        return weight_together(guests, weight, rows, together)
    # A pair is apart in all the seatings but those in which it is together.
    others = apart[:-1]
    wanted = weight_apart(guests, weight, rows, together, others)
    return wanted - weight_apart(guests, weight, rows, together + apart[-1:], others)


def weight_together(guests, weight, rows, together):
    """What the seatings weigh that have the rows and the pairs together (R5)."""
    lefts = told_lefts(guests, rows)
    if lefts is None or any([tears_a_ring(lefts, pair) for pair in together]):
        return 0
    starts = [row[0] for row in rows_of(lefts)]
    groups = groups_by_pairs(lefts, together)
    counts = [len([start for start in starts if start in group]) for group in groups]
    larger = [count for count in counts if count > 1]
    total = raised(weight, len(rings_of(lefts))) * weight_of_sets(weight, larger)
    for seated in range(sum(larger), len(starts)):
        total = total * (weight + seated)
    return total


def weight_of_sets(weight, counts):
    """The sum, over all ways to part groups with so many rows in sets, of what the tables of the sets weigh."""
    total = 0
    for sets, ways in ways_to_part(counts).items():
        part = ways
        for rows in sets:
            part = part * weight * factorial(rows - 1)
        total += part
    return total


def ways_to_part(counts):
    """How many ways there are to part groups with so many rows in sets, for the sorted rows of these sets."""
    ways = {(): 1}
    for count in counts:
        further = {}
        for sets, many in ways.items():
            grown = [sets[:at] + (rows + count,) + sets[at + 1:] for at, rows in enumerate(sets)]
            for parted in grown + [sets + (count,)]:
                key = tuple(sorted(parted))
                further[key] = further.get(key, 0) + many
        ways = further
    return ways
