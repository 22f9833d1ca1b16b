"""Seatings as lists of left neighbours, and their other forms."""

from newtables.basics import check_any_number, check_guest, is_order, is_whole
from newtables.errors import InvalidNames, InvalidSeating, InvalidTables


def is_seating(thing):
    """Whether any object is a seating."""
    return is_order(thing)


def tables_of(seating):
    """The ascending list of the tables, each from its least guest on to the left."""
    check_seating(seating)
    return tables_among(seating, list(range(len(seating))))


def seating_of(tables):
    """The seating with these tables."""
    if not are_tables(tables):
        raise InvalidTables("tables must be the list of the tables of a seating")
    return seating_with(tables)


def table_from(seating, guest):
    """The table of a guest, from this guest on to the left."""
    check_seating(seating)
    check_guest(guest, len(seating))
    return walk_left(seating, guest)


def right_of(seating, guest):
    """The guest whose left neighbour the guest is."""
    check_seating(seating)
    check_guest(guest, len(seating))
    return seating.index(guest)


def steps_left(seating, guest, number):
    """The guest so many steps to the left, below 0 to the right."""
    check_seating(seating)
    check_guest(guest, len(seating))
    check_any_number(number)
    table = walk_left(seating, guest)
    return table[number % len(table)]


def are_together(seating, guest, mate):
    """Whether two guests sit at one table."""
    check_seating(seating)
    check_guest(guest, len(seating))
    check_guest(mate, len(seating))
    return mate in walk_left(seating, guest)


def mirrored(seating):
    """The seating with left and right exchanged."""
    check_seating(seating)
    return [seating.index(guest) for guest in range(len(seating))]


def renamed(seating, names):
    """The seating in which guest i is called names[i]."""
    check_seating(seating)
    check_names(names)
    if len(names) != len(seating):
        raise InvalidNames("names must have as many items as seating")
    renewed = [0] * len(seating)
    for guest, left in enumerate(seating):
        renewed[names[guest]] = names[left]
    return renewed


def record_list(seating):
    """The guests, table after table by falling least guest."""
    return [guest for table in tables_of(seating)[::-1] for guest in table]


def seating_of_records(names):
    """The seating whose record list is names."""
    check_names(names)
    tables = []
    for guest in names:
        # The tables fall, so a guest below all others before it begins a new one.
        if not tables or guest < tables[-1][0]:
            tables.append([guest])
        else:
            tables[-1].append(guest)
    return seating_with(tables)


def check_seating(seating):
    if not is_seating(seating):
        raise InvalidSeating("a seating must be a list of 1 to 20 guests, each once")


def check_names(names):
    if not is_order(names):
        raise InvalidNames("names must be a list of 1 to 20 guests, each once")


def are_tables(thing):
    """Whether any object is the list of the tables of a seating."""
    if type(thing) != list or not all([is_table(table) for table in thing]):
        return False
    openers = [table[0] for table in thing]
    return openers == sorted(openers) and is_order([guest for table in thing for guest in table])


def is_table(thing):
    """Whether any object is a tuple of integers that begins with its least one."""
    if type(thing) != tuple or len(thing) == 0:
        return False
    return all([is_whole(guest) for guest in thing]) and thing[0] == min(thing)


def walk_left(lefts, guest):
    """The table of a guest, from this guest on, by all left neighbours in a list or a dict."""
    walk = [guest]
    while lefts[walk[-1]] != guest:
        walk.append(lefts[walk[-1]])
    return tuple(walk)


def tables_among(lefts, guests):
    """The tables of ascending guests whose left neighbours are told, by a list or a dict."""
    walks = [walk_left(lefts, guest) for guest in guests]
    return [walk for walk in walks if walk[0] == min(walk)]


def seating_with(tables):
    """The seating with these tables, in any sequence and from any guest on."""
    seating = [0] * sum([len(table) for table in tables])
    for table in tables:
        for at, guest in enumerate(table):
            seating[guest] = table[(at + 1) % len(table)]
    return seating
