"""Seatings with told facts: left neighbours, who opens a table and who does not."""

from newtables.basics import check_guests, check_index, check_weight, fraction, is_within
from newtables.basics import rising, sums_by_tables
from newtables.errors import InvalidFacts, NoSeating
from newtables.seatings import check_seating

MOST_FACTS = 40
WORDS = ("left", "open", "sit")


def hold_paper(guests, facts):
    """None if some seating has all facts, else the word and the index of the first fact too many."""
    check_guests(guests)
    check_facts(facts, guests)
    for at, fact in enumerate(facts):
        if ways_with(guests, facts[:at + 1]) == 0:
            return (fact[0], at)
    return None


def can_hold(guests, facts):
    """Whether some seating has all facts."""
    check_guests(guests)
    check_facts(facts, guests)
    return ways_with(guests, facts) > 0


def weight_with(guests, weight, facts):
    """What the seatings with all facts weigh."""
    check_guests(guests)
    check_weight(weight)
    check_facts(facts, guests)
    return weight_of_facts(guests, weight, facts)


def share_with(guests, weight, facts):
    """The share of the seatings with all facts."""
    check_guests(guests)
    check_weight(weight)
    check_facts(facts, guests)
    return fraction(weight_of_facts(guests, weight, facts), rising(weight, guests))


def count_with(guests, facts):
    """How many seatings have all facts."""
    check_guests(guests)
    check_facts(facts, guests)
    return ways_with(guests, facts)


def tables_with(guests, facts):
    """The list of guests + 1 numbers, item t: how many seatings with all facts have t tables."""
    check_guests(guests)
    check_facts(facts, guests)
    sums = sums_by_tables(factors_of_facts(guests, facts))
    return sums + [0] * (guests + 1 - len(sums))


def nth_with(guests, facts, index):
    """The seating with this index, of those with all facts."""
    check_guests(guests)
    check_facts(facts, guests)
    check_index(index, ways_with(guests, facts))
    told = list(facts)
    seating = []
    for guest in range(guests):
        left = 0
        ways = ways_with(guests, told + [("left", guest, left)])
        while index >= ways:
            index -= ways
            left += 1
            ways = ways_with(guests, told + [("left", guest, left)])
        told.append(("left", guest, left))
        seating.append(left)
    return seating


def index_with(seating, facts):
    """The index of a seating, of those with all facts."""
    check_seating(seating)
    guests = len(seating)
    check_facts(facts, guests)
    if ways_with(guests, facts + neighbours_of(seating)) == 0:
        raise NoSeating("the seating has not all facts")
    index = 0
    for guest, left in enumerate(seating):
        told = facts + neighbours_of(seating)[:guest]
        index += sum([ways_with(guests, told + [("left", guest, lower)]) for lower in range(left)])
    return index


def next_share(guests, weight, facts, fact):
    """The share, of the seatings with all facts, of those that have one more."""
    check_guests(guests)
    check_weight(weight)
    check_facts(facts, guests)
    if not is_fact(fact, guests):
        raise InvalidFacts("the fact must be a tuple of a word and its guests")
    check_holding(guests, facts)
    return fraction(weight_of_facts(guests, weight, facts + [fact]), weight_of_facts(guests, weight, facts))


def sure_neighbours(guests, facts):
    """The ascending list of the tuples (i, j) such that j is left of i in all seatings with all facts."""
    check_guests(guests)
    check_facts(facts, guests)
    check_holding(guests, facts)
    total = ways_with(guests, facts)
    return [pair for pair in pairs_of(guests) if ways_with(guests, facts + [("left", *pair)]) == total]


def best_question(guests, weight, facts):
    """The tuple (i, j) for which it is most open whether j is left of i, or None."""
    check_guests(guests)
    check_weight(weight)
    check_facts(facts, guests)
    check_holding(guests, facts)
    total = weight_of_facts(guests, weight, facts)
    best = None
    least = total
    for pair in pairs_of(guests):
        # The share is 0 or 1 just if it is 1/2 away from 1/2, so that it is not below least.
        away = abs(2 * weight_of_facts(guests, weight, facts + [("left", *pair)]) - total)
        if away < least:
            best = pair
            least = away
    return best


def check_facts(facts, guests):
    if not are_facts(facts, guests):
        raise InvalidFacts("facts must be a list of 0 to 40 unlike tuples of a word and its guests")


def check_holding(guests, facts):
    if ways_with(guests, facts) == 0:
        raise NoSeating("no seating has all facts")


def are_facts(thing, guests):
    """Whether any object is a list of 0 to 40 unlike facts."""
    if type(thing) != list or len(thing) > MOST_FACTS:
        return False
    return all([is_fact(item, guests) for item in thing]) and len(set(thing)) == len(thing)


def is_fact(thing, guests):
    """Whether any object is a tuple of a word and as many guests as it needs."""
    if type(thing) != tuple or len(thing) == 0 or thing[0] not in WORDS:
        return False
    many = 2 if thing[0] == "left" else 1
    return len(thing) == many + 1 and all([is_within(guest, 0, guests - 1) for guest in thing[1:]])


def pairs_of(guests):
    """All tuples of two guests, perhaps the same, ascending."""
    return [(guest, left) for guest in range(guests) for left in range(guests)]


def neighbours_of(seating):
    """The facts that tell all left neighbours of a seating."""
    return [("left", guest, left) for guest, left in enumerate(seating)]


def ways_with(guests, facts):
    """How many seatings have all facts, which may be more than a caller may tell, also twice the same."""
    return weight_of_facts(guests, 1, facts)


def weight_of_facts(guests, weight, facts):
    """What the seatings with all facts weigh (R4)."""
    total = 1
    for steep, even in factors_of_facts(guests, facts):
        total = total * (steep * weight + even)
    return total


def factors_of_facts(guests, facts):
    """The factors of R4 as tuples: (steep, even) stands for steep * w + even."""
    lefts = told_lefts(guests, facts)
    if lefts is None:
        return [(0, 0)]
    rows = rows_of(lefts)
    rings = rings_of(lefts)
    openers = [fact[1] for fact in facts if fact[0] == "open"]
    sitters = [fact[1] for fact in facts if fact[0] == "sit"]
    leasts = [min(row) for row in rows + rings]
    if not all([guest in leasts for guest in openers]):
        return [(0, 0)]
    # Who is told to open has no even part, who is told to sit no steep one.
    factors = [(int(min(ring) not in sitters), 0) for ring in rings]
    for rank, least in enumerate(sorted([min(row) for row in rows])):
        factors.append((int(least not in sitters), 0 if least in openers else rank))
    return factors


def told_lefts(guests, facts):
    """The list of the told left neighbours, None for guests without; None if no seating has them all."""
    lefts = [None] * guests
    for fact in facts:
        if fact[0] == "left" and lefts[fact[1]] != fact[2]:
            if lefts[fact[1]] is not None or fact[2] in lefts:
                return None
            lefts[fact[1]] = fact[2]
    return lefts


def rows_of(lefts):
    """The rows that are no rings, each from its right end on, also those of one guest."""
    rows = []
    for guest in range(len(lefts)):
        if guest not in lefts:
            row = [guest]
            while lefts[row[-1]] is not None:
                row.append(lefts[row[-1]])
            rows.append(row)
    return rows


def rings_of(lefts):
    """The rings, each from its least guest on."""
    rowed = [guest for row in rows_of(lefts) for guest in row]
    rings = []
    for guest in range(len(lefts)):
        if guest not in rowed:
            ring = [guest]
            while lefts[ring[-1]] != guest:
                ring.append(lefts[ring[-1]])
            rings.append(ring)
            rowed = rowed + ring
    return rings
