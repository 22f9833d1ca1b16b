"""[2]: what holds for all functions of the interface, and that each is where the document lists it."""

import ast
import copy
import importlib
import inspect
import unittest
from math import gcd
from pathlib import Path

from newtables.errors import HallError, Refused
from newtables.live import Hall

PACKAGE = Path(__file__).resolve().parent.parent / "newtables"

# For each file its functions with their arguments and one valid call.
SEATING = [1, 3, 2, 0]
FACTS = [("left", 0, 1), ("sit", 2)]
ROWS = [("left", 0, 1)]
TOGETHER = [(2, 1)]
APART = [(0, 3)]
OTHER = [3, 0, 2, 1]
INTERFACE = {
    "seatings": {
        "is_seating": {"thing": SEATING},
        "tables_of": {"seating": SEATING},
        "seating_of": {"tables": [(0, 1, 3), (2,)]},
        "table_from": {"seating": SEATING, "guest": 1},
        "right_of": {"seating": SEATING, "guest": 1},
        "steps_left": {"seating": SEATING, "guest": 1, "number": -5},
        "are_together": {"seating": SEATING, "guest": 1, "mate": 3},
        "mirrored": {"seating": SEATING},
        "renamed": {"seating": SEATING, "names": [3, 1, 0, 2]},
        "record_list": {"seating": SEATING},
        "seating_of_records": {"names": [2, 0, 1, 3]},
    },
    "comings": {
        "is_coming": {"thing": [0, 0, 2, 1]},
        "coming_of": {"seating": SEATING},
        "seating_by": {"coming": [0, 0, 2, 1]},
        "openers_of": {"seating": SEATING},
        "hall_of": {"coming": [0, 0, 2, 1], "number": 3},
    },
    "weights": {
        "total_weight": {"guests": 4, "weight": 2},
        "seating_share": {"seating": SEATING, "weight": 2},
        "tables_share": {"guests": 4, "weight": 2, "number": 2},
        "mean_tables": {"guests": 4, "weight": 2},
        "likeliest_tables": {"guests": 2, "weight": 1},
        "best_weights": {"guests": 4, "number": 3},
    },
    "orders": {
        "count_seatings": {"guests": 4},
        "by_tables": {"guests": 4},
        "nth_coming": {"guests": 4, "index": 5},
        "coming_index": {"coming": [0, 0, 2, 1]},
        "nth_coming_with": {"guests": 4, "number": 2, "index": 7},
        "coming_index_with": {"coming": [0, 0, 2, 1]},
        "nth_seating": {"guests": 4, "index": 9},
        "seating_index": {"seating": SEATING},
        "next_seating": {"seating": SEATING},
    },
    "sizes": {
        "count_sizes": {"sizes": [2, 1]},
        "sizes_share": {"sizes": [2, 1], "weight": 2},
        "nth_with_sizes": {"sizes": [2, 1], "index": 2},
        "index_with_sizes": {"seating": SEATING},
        "count_by_opening": {"sizes": [2, 1]},
        "opening_share": {"sizes": [2, 1], "weight": 2},
        "size_share": {"guests": 4, "weight": 2, "size": 3},
        "mean_number": {"guests": 4, "weight": 2, "size": 3},
        "number_shares": {"guests": 4, "weight": 2, "size": 3},
        "count_allowed": {"guests": 4, "allowed": [1, 2]},
        "allowed_share": {"guests": 4, "weight": 2, "allowed": [1, 2]},
        "nth_allowed": {"guests": 4, "allowed": [1, 2], "index": 5},
        "first_allowed": {"guests": 4, "weight": 2, "allowed": [1, 2]},
        "given_open": {"sizes": [2, 1], "guest": 2},
        "given_together": {"sizes": [2, 1]},
    },
    "events": {
        "opener_share": {"guests": 4, "weight": 2, "guest": 3},
        "count_openers": {"guests": 4, "group": [0, 2]},
        "openers_share": {"guests": 4, "weight": 2, "group": [0, 2]},
        "last_opener_share": {"guests": 4, "weight": 2, "guest": 3},
        "rank_share": {"guests": 4, "weight": 2, "rank": 1, "guest": 3},
        "together_share": {"guests": 4, "weight": 2, "group": [1, 3]},
        "just_share": {"guests": 4, "weight": 2, "group": [1, 3]},
        "tables_shares": {"guests": 4, "weight": 2, "group": [1, 3]},
        "split_share": {"guests": 4, "weight": 2, "groups": [[1, 3], [0]]},
        "given_tables": {"guests": 4, "number": 2, "group": [1, 3]},
        "home_share": {"guests": 4, "weight": 2, "steps": -3},
        "other_share": {"guests": 4, "weight": 2, "steps": -3},
    },
    "rows": {
        "hold_paper": {"guests": 4, "facts": FACTS + [("sit", 0)]},
        "can_hold": {"guests": 4, "facts": FACTS},
        "weight_with": {"guests": 4, "weight": 2, "facts": FACTS},
        "share_with": {"guests": 4, "weight": 2, "facts": FACTS},
        "count_with": {"guests": 4, "facts": FACTS},
        "tables_with": {"guests": 4, "facts": FACTS},
        "nth_with": {"guests": 4, "facts": FACTS, "index": 1},
        "index_with": {"seating": [1, 2, 3, 0], "facts": FACTS},
        "next_share": {"guests": 4, "weight": 2, "facts": FACTS, "fact": ("open", 3)},
        "sure_neighbours": {"guests": 4, "facts": FACTS},
        "best_question": {"guests": 4, "weight": 2, "facts": FACTS},
    },
    "company": {
        "company_paper": {"guests": 4, "rows": ROWS, "together": TOGETHER, "apart": [(1, 2)]},
        "can_meet": {"guests": 4, "rows": ROWS, "together": TOGETHER, "apart": APART},
        "company_weight": {"guests": 4, "weight": 2, "rows": ROWS, "together": TOGETHER, "apart": APART},
        "company_share": {"guests": 4, "weight": 2, "rows": ROWS, "together": TOGETHER, "apart": APART},
        "meet_share": {
            "guests": 4, "weight": 2, "rows": ROWS, "together": [], "apart": APART, "guest": 2, "mate": 0,
        },
        "groups_of": {"guests": 4, "rows": ROWS, "together": TOGETHER},
    },
    "growth": {
        "grow_share": {"sizes": [2, 1], "weight": 2, "later": [3, 1, 2]},
        "mean_later": {"sizes": [2, 1], "weight": 2, "number": 3},
        "new_shares": {"sizes": [2, 1], "weight": 2, "number": 3},
    },
    "leaving": {
        "without": {"seating": SEATING, "guest": 1},
        "coming_without": {"coming": [0, 0, 2, 1], "guest": 1},
        "sits_alone": {"seating": SEATING, "guest": 2},
        "is_traceless": {"seating": SEATING, "guest": 2},
        "traceless": {"seating": SEATING},
        "traceless_share": {"guests": 4, "weight": 2, "guest": 1},
        "traceless_counts": {"guests": 4, "weight": 2},
        "joined": {"seating": SEATING, "mate": 2},
    },
    "powers": {
        "power": {"seating": SEATING, "number": -5},
        "power_sizes": {"sizes": [2, 1], "number": -4},
        "period_of": {"seating": SEATING},
        "period_counts": {"guests": 4},
        "least_guests": {"period": 12},
        "count_roots": {"seating": SEATING, "number": 2},
        "a_root": {"seating": SEATING, "number": 2},
        "shows_root": {"seating": SEATING, "number": 2, "thing": [3, 0, 2, 1]},
        "root_paper": {"seating": SEATING, "number": 3},
        "shows_root_paper": {"seating": SEATING, "number": 3, "thing": 3},
    },
    "paths": {
        "exchanged": {"seating": SEATING, "guest": 1, "mate": 2},
        "distance": {"seating": SEATING, "other": OTHER},
        "count_paths": {"seating": SEATING, "other": OTHER},
        "a_path": {"seating": SEATING, "other": OTHER},
        "shows_path": {"seating": SEATING, "other": OTHER, "thing": [(0, 1), (1, 3)]},
        "is_between": {"seating": SEATING, "other": OTHER, "third": [1, 0, 2, 3]},
        "count_between": {"seating": SEATING, "other": OTHER},
        "between_at": {"seating": SEATING, "other": OTHER},
        "a_between": {"seating": SEATING, "other": OTHER, "number": 1},
        "count_chains": {"seating": SEATING, "other": OTHER, "distances": [1, 1]},
        "count_at": {"guests": 4, "number": 2},
    },
    "texts": {
        "write_seating": {"seating": SEATING},
        "read_seating": {"text": "1 3 2 0"},
        "write_coming": {"coming": [0, 0, 2, 1]},
        "read_coming": {"text": "0 0 2 1"},
        "write_tables": {"tables": [(0, 1, 3), (2,)]},
        "read_tables": {"text": "0 1 3 | 2"},
    },
    "session": {
        "session": {"lines": "open\nsit 0\ntables\n"},
    },
}

# What answers with a fraction, and what with a list of fractions.
FRACTIONS = [
    ("weights", "seating_share"), ("weights", "tables_share"), ("weights", "mean_tables"),
    ("sizes", "sizes_share"), ("sizes", "opening_share"), ("sizes", "size_share"), ("sizes", "mean_number"),
    ("sizes", "allowed_share"), ("sizes", "given_open"), ("sizes", "given_together"),
    ("events", "opener_share"), ("events", "openers_share"), ("events", "last_opener_share"),
    ("events", "rank_share"), ("events", "together_share"), ("events", "just_share"), ("events", "split_share"),
    ("events", "given_tables"), ("events", "home_share"), ("events", "other_share"),
    ("rows", "share_with"), ("rows", "next_share"), ("company", "company_share"), ("company", "meet_share"),
    ("growth", "grow_share"), ("leaving", "traceless_share"),
]
LISTS_OF_FRACTIONS = [
    ("sizes", "number_shares"), ("sizes", "first_allowed"), ("events", "tables_shares"), ("growth", "mean_later"),
    ("growth", "new_shares"),
]
TRUTHS = [
    ("seatings", "is_seating"), ("seatings", "are_together"), ("comings", "is_coming"), ("rows", "can_hold"),
    ("company", "can_meet"), ("leaving", "sits_alone"), ("leaving", "is_traceless"), ("powers", "shows_root"),
    ("powers", "shows_root_paper"), ("paths", "shows_path"), ("paths", "is_between"),
]

# Valid calls whose answers could be the very list that was passed.
CALLS_THAT_CHANGE_NOTHING = [
    ("seatings", "mirrored", [0, 1, 2]), ("seatings", "renamed", [0, 1, 2], [0, 1, 2]),
    ("seatings", "record_list", [1, 2, 0]), ("seatings", "seating_of_records", [2, 1, 0]),
    ("comings", "coming_of", [0, 1, 2]), ("comings", "seating_by", [0, 1, 2]),
    ("comings", "openers_of", [0, 1, 2]), ("comings", "hall_of", [0, 1, 2], 3),
    ("seatings", "tables_of", [0, 1]), ("seatings", "seating_of", [(0,), (1,)]),
    ("orders", "nth_coming", 3, 5), ("orders", "nth_seating", 3, 0), ("orders", "next_seating", [1, 0]),
    ("sizes", "nth_with_sizes", [1, 1], 0), ("sizes", "nth_with_sizes", [2], 0), ("sizes", "nth_allowed", 2, [1], 0),
    ("rows", "nth_with", 2, [], 0), ("rows", "tables_with", 2, []), ("rows", "tables_with", 2, [("sit", 0)]),
    ("rows", "sure_neighbours", 3, []), ("company", "groups_of", 3, [], []), ("company", "groups_of", 2, [], [(0, 1)]),
    ("company", "groups_of", 1, [("left", 0, 0)], []), ("growth", "mean_later", [1, 1], 1, 0),
    ("growth", "new_shares", [1], 1, 0), ("leaving", "traceless", [0, 1]), ("leaving", "without", [0, 1], 1),
    ("leaving", "coming_without", [0, 0], 1), ("leaving", "joined", [0], 1), ("leaving", "traceless_counts", 1, 1),
    ("powers", "power", [1, 0], 1), ("powers", "power", [1, 0], 0), ("powers", "power_sizes", [1, 1], 1),
    ("powers", "a_root", [1, 2, 0], 1), ("powers", "a_root", [0, 1, 2], 1), ("powers", "period_counts", 2),
    ("paths", "exchanged", [1, 0], 0, 0), ("paths", "a_path", [0, 1], [0, 1]), ("paths", "between_at", [0], [0]),
    ("paths", "a_between", [0, 1], [1, 0], 0), ("paths", "a_between", [0, 1], [1, 0], 1),
    ("texts", "read_seating", "0"), ("texts", "read_coming", "0"), ("texts", "read_tables", "0 | 1"),
]

# Of several wrong arguments the first one decides, whatever follows.
WRONG_CALLS = [
    ("seatings", "table_from", "InvalidSeating", [0, 0], 9), ("seatings", "table_from", "InvalidGuest", [0], 9),
    ("seatings", "steps_left", "InvalidSeating", [True], 9, True),
    ("seatings", "steps_left", "InvalidGuest", [0], 9, True),
    ("seatings", "steps_left", "InvalidNumber", [0], 0, True),
    ("seatings", "are_together", "InvalidSeating", (0,), 9, 9),
    ("seatings", "are_together", "InvalidGuest", [0], 9, 9),
    ("seatings", "renamed", "InvalidSeating", [], []), ("seatings", "renamed", "InvalidNames", [0], []),
    ("comings", "hall_of", "InvalidComing", [1], 0), ("comings", "hall_of", "InvalidNumber", [0], 0),
    ("weights", "total_weight", "InvalidGuests", 0, 0), ("weights", "total_weight", "InvalidWeight", 1, 0),
    ("weights", "seating_share", "InvalidSeating", [2], 0), ("weights", "seating_share", "InvalidWeight", [0], 0),
    ("weights", "tables_share", "InvalidGuests", 0, 0, -1),
    ("weights", "tables_share", "InvalidWeight", 1, 0, -1),
    ("weights", "tables_share", "InvalidNumber", 1, 1, -1),
    ("weights", "mean_tables", "InvalidGuests", 21, 0), ("weights", "likeliest_tables", "InvalidGuests", 21, 0),
    ("weights", "best_weights", "InvalidGuests", 0, 0), ("weights", "best_weights", "InvalidNumber", 1, 0),
    ("orders", "nth_coming", "InvalidGuests", 0, -1), ("orders", "nth_coming", "InvalidIndex", 1, -1),
    ("orders", "nth_coming_with", "InvalidGuests", 0, 0, -1),
    ("orders", "nth_coming_with", "InvalidNumber", 1, 0, -1),
    ("orders", "nth_coming_with", "InvalidIndex", 1, 1, -1),
    ("orders", "nth_seating", "InvalidGuests", 21, -1), ("orders", "nth_seating", "InvalidIndex", 20, -1),
    ("sizes", "sizes_share", "InvalidSizes", [], 0), ("sizes", "sizes_share", "InvalidWeight", [1], 0),
    ("sizes", "nth_with_sizes", "InvalidSizes", [21], -1), ("sizes", "nth_with_sizes", "InvalidIndex", [20], -1),
    ("sizes", "opening_share", "InvalidSizes", (1,), 0), ("sizes", "opening_share", "InvalidWeight", [1], 0),
    ("sizes", "size_share", "InvalidGuests", 0, 0, 0), ("sizes", "size_share", "InvalidWeight", 1, 0, 0),
    ("sizes", "mean_number", "InvalidGuests", 0, 0, 0), ("sizes", "mean_number", "InvalidWeight", 1, 0, 0),
    ("sizes", "number_shares", "InvalidGuests", 0, 0, 0), ("sizes", "number_shares", "InvalidWeight", 1, 0, 0),
    ("sizes", "number_shares", "InvalidNumber", 1, 1, 0),
    ("sizes", "count_allowed", "InvalidGuests", 0, []), ("sizes", "count_allowed", "InvalidSizes", 1, []),
    ("sizes", "allowed_share", "InvalidGuests", 0, 0, []), ("sizes", "allowed_share", "InvalidWeight", 1, 0, []),
    ("sizes", "nth_allowed", "InvalidGuests", 0, [], -1), ("sizes", "nth_allowed", "InvalidSizes", 1, [], -1),
    ("sizes", "nth_allowed", "InvalidIndex", 1, [2], 0),
    ("sizes", "first_allowed", "InvalidGuests", 0, 0, []), ("sizes", "first_allowed", "InvalidWeight", 1, 0, []),
    ("sizes", "first_allowed", "InvalidSizes", 1, 1, []), ("sizes", "first_allowed", "NoSeating", 1, 1, [2]),
    ("sizes", "given_open", "InvalidSizes", [0], 1), ("sizes", "given_open", "InvalidGuest", [1], 1),
    ("events", "opener_share", "InvalidGuests", 0, 0, 0), ("events", "opener_share", "InvalidWeight", 1, 0, 1),
    ("events", "opener_share", "InvalidGuest", 1, 1, 1),
    ("events", "count_openers", "InvalidGuests", 0, []), ("events", "count_openers", "InvalidGroup", 2, [1]),
    ("events", "openers_share", "InvalidGuests", 0, 0, []), ("events", "openers_share", "InvalidWeight", 1, 0, []),
    ("events", "openers_share", "InvalidGroup", 2, 1, [1]),
    ("events", "last_opener_share", "InvalidGuests", 0, 0, 0),
    ("events", "last_opener_share", "InvalidWeight", 1, 0, 1),
    ("events", "rank_share", "InvalidGuests", 0, 0, 0, 0), ("events", "rank_share", "InvalidWeight", 1, 0, 1, 1),
    ("events", "rank_share", "InvalidNumber", 1, 1, 1, 1), ("events", "rank_share", "InvalidGuest", 1, 1, 0, 1),
    ("events", "together_share", "InvalidGuests", 0, 0, []), ("events", "together_share", "InvalidWeight", 1, 0, []),
    ("events", "just_share", "InvalidGuests", 0, 0, []), ("events", "just_share", "InvalidWeight", 1, 0, []),
    ("events", "tables_shares", "InvalidGuests", 0, 0, []), ("events", "tables_shares", "InvalidWeight", 1, 0, []),
    ("events", "split_share", "InvalidGuests", 0, 0, []), ("events", "split_share", "InvalidWeight", 1, 0, []),
    ("events", "given_tables", "InvalidGuests", 0, 0, []), ("events", "given_tables", "InvalidNumber", 1, 2, []),
    ("events", "given_tables", "InvalidGroup", 1, 1, []),
    ("events", "home_share", "InvalidGuests", 0, 0, True), ("events", "home_share", "InvalidWeight", 1, 0, True),
    ("events", "other_share", "InvalidGuests", 0, 0, True), ("events", "other_share", "InvalidWeight", 1, 0, True),
    ("rows", "hold_paper", "InvalidGuests", 0, None), ("rows", "can_hold", "InvalidGuests", 0, None),
    ("rows", "weight_with", "InvalidGuests", 0, 0, None), ("rows", "weight_with", "InvalidWeight", 1, 0, None),
    ("rows", "share_with", "InvalidGuests", 0, 0, None), ("rows", "share_with", "InvalidWeight", 1, 0, None),
    ("rows", "count_with", "InvalidGuests", 0, None), ("rows", "tables_with", "InvalidGuests", 0, None),
    ("rows", "nth_with", "InvalidGuests", 0, None, -1), ("rows", "nth_with", "InvalidFacts", 1, None, -1),
    ("rows", "nth_with", "InvalidIndex", 1, [("sit", 0)], 0),
    ("rows", "index_with", "InvalidSeating", [1], None), ("rows", "index_with", "InvalidFacts", [0], None),
    ("rows", "index_with", "NoSeating", [0], [("sit", 0)]),
    ("rows", "next_share", "InvalidGuests", 0, 0, None, None),
    ("rows", "next_share", "InvalidWeight", 1, 0, None, None),
    ("rows", "next_share", "InvalidFacts", 1, 1, None, None),
    ("rows", "next_share", "InvalidFacts", 1, 1, [("sit", 0)], None),
    ("rows", "next_share", "NoSeating", 1, 1, [("sit", 0)], ("open", 0)),
    ("rows", "sure_neighbours", "InvalidGuests", 0, None),
    ("rows", "sure_neighbours", "NoSeating", 1, [("sit", 0)]),
    ("rows", "best_question", "InvalidGuests", 0, 0, None), ("rows", "best_question", "InvalidWeight", 1, 0, None),
    ("rows", "best_question", "InvalidFacts", 1, 1, None),
    ("rows", "best_question", "NoSeating", 1, 1, [("sit", 0)]),
    ("company", "company_paper", "InvalidGuests", 0, None, None, None),
    ("company", "company_paper", "InvalidFacts", 1, None, None, None),
    ("company", "can_meet", "InvalidGuests", 0, None, None, None),
    ("company", "can_meet", "InvalidFacts", 1, [], None, None),
    ("company", "company_weight", "InvalidGuests", 0, 0, None, None, None),
    ("company", "company_weight", "InvalidWeight", 1, 0, None, None, None),
    ("company", "company_weight", "InvalidFacts", 1, 1, [], [], None),
    ("company", "company_share", "InvalidGuests", 0, 0, None, None, None),
    ("company", "company_share", "InvalidWeight", 1, 0, None, None, None),
    ("company", "company_share", "InvalidFacts", 1, 1, None, None, None),
    ("company", "meet_share", "InvalidGuests", 0, 0, None, None, None, 9, 9),
    ("company", "meet_share", "InvalidWeight", 1, 0, None, None, None, 9, 9),
    ("company", "meet_share", "InvalidFacts", 1, 1, None, None, None, 9, 9),
    ("company", "meet_share", "InvalidFacts", 1, 1, [], None, None, 9, 9),
    ("company", "meet_share", "InvalidFacts", 1, 1, [], [], None, 9, 9),
    ("company", "meet_share", "InvalidGuest", 2, 1, [], [(0, 1)], [(0, 1)], 9, 9),
    ("company", "meet_share", "InvalidGuest", 2, 1, [], [(0, 1)], [(0, 1)], 1, 1),
    ("company", "meet_share", "NoSeating", 2, 1, [], [(0, 1)], [(0, 1)], 1, 0),
    ("company", "groups_of", "InvalidGuests", 0, None, None), ("company", "groups_of", "InvalidFacts", 1, None, None),
    ("company", "groups_of", "NoSeating", 2, [("left", 0, 0)], [(0, 1)]),
    ("growth", "grow_share", "InvalidSizes", [], 0, []), ("growth", "grow_share", "InvalidWeight", [1], 0, []),
    ("growth", "grow_share", "InvalidSizes", [1], 1, []),
    ("growth", "mean_later", "InvalidSizes", [], 0, -1), ("growth", "mean_later", "InvalidWeight", [1], 0, -1),
    ("growth", "mean_later", "InvalidNumber", [1], 1, -1),
    ("growth", "new_shares", "InvalidSizes", [], 0, -1), ("growth", "new_shares", "InvalidWeight", [1], 0, -1),
    ("growth", "new_shares", "InvalidNumber", [1], 1, -1),
    ("leaving", "without", "InvalidSeating", [], 0), ("leaving", "without", "InvalidGuest", [0], 1),
    ("leaving", "without", "NoSeating", [0], 0),
    ("leaving", "coming_without", "InvalidComing", [], 0), ("leaving", "coming_without", "InvalidGuest", [0], 1),
    ("leaving", "coming_without", "NoSeating", [0], 0),
    ("leaving", "sits_alone", "InvalidSeating", [], 0), ("leaving", "is_traceless", "InvalidSeating", [], 0),
    ("leaving", "traceless_share", "InvalidGuests", 0, 0, 0),
    ("leaving", "traceless_share", "InvalidWeight", 1, 0, 1),
    ("leaving", "traceless_share", "InvalidGuest", 1, 1, 1),
    ("leaving", "traceless_counts", "InvalidGuests", 0, 0), ("leaving", "traceless_counts", "InvalidWeight", 1, 0),
    ("leaving", "joined", "InvalidSeating", list(range(20)), 21), ("leaving", "joined", "InvalidGuest", [0], 2),
    ("powers", "power", "InvalidSeating", [], True), ("powers", "power", "InvalidNumber", [0], True),
    ("powers", "power_sizes", "InvalidSizes", [], True), ("powers", "power_sizes", "InvalidNumber", [1], True),
    ("powers", "count_roots", "InvalidSeating", [], 0), ("powers", "count_roots", "InvalidNumber", [0], 0),
    ("powers", "a_root", "InvalidSeating", [], 0), ("powers", "a_root", "InvalidNumber", [1, 0], 0),
    ("powers", "shows_root", "InvalidSeating", [], 0, []), ("powers", "shows_root", "InvalidNumber", [0], 0, []),
    ("powers", "root_paper", "InvalidSeating", [], 0), ("powers", "root_paper", "InvalidNumber", [0], 0),
    ("powers", "shows_root_paper", "InvalidSeating", [], 0, None),
    ("powers", "shows_root_paper", "InvalidNumber", [0], 0, None),
    ("paths", "exchanged", "InvalidSeating", [], 0, 0), ("paths", "exchanged", "InvalidGuest", [0], 1, 0),
    ("paths", "exchanged", "InvalidGuest", [0], 0, 1),
    ("paths", "distance", "InvalidSeating", [0], [0, 1]), ("paths", "count_paths", "InvalidSeating", [0], [0, 1]),
    ("paths", "a_path", "InvalidSeating", [0, 1], [0]), ("paths", "shows_path", "InvalidSeating", [0, 1], [0], None),
    ("paths", "is_between", "InvalidSeating", [0, 1], [0], [0]), ("paths", "is_between", "InvalidSeating", [0], [0], 0),
    ("paths", "count_between", "InvalidSeating", [0], [0, 1]), ("paths", "between_at", "InvalidSeating", [0], [0, 1]),
    ("paths", "a_between", "InvalidSeating", [0], [0, 1], -1), ("paths", "a_between", "InvalidNumber", [0], [0], 1),
    ("paths", "count_chains", "InvalidSeating", [0], [0, 1], None),
    ("paths", "count_chains", "InvalidDistances", [0], [0], None),
    ("paths", "count_at", "InvalidGuests", 0, -1), ("paths", "count_at", "InvalidNumber", 1, 1),
    ("texts", "read_seating", "InvalidText", "x"), ("texts", "read_coming", "InvalidText", "x"),
    ("texts", "read_tables", "InvalidText", "x"),
]

ERRORS_OF_OBJECTS = {
    "seating": "InvalidSeating", "other": "InvalidSeating", "third": "InvalidSeating", "coming": "InvalidComing",
    "names": "InvalidNames", "tables": "InvalidTables", "sizes": "InvalidSizes", "allowed": "InvalidSizes",
    "later": "InvalidSizes", "group": "InvalidGroup", "groups": "InvalidGroups", "facts": "InvalidFacts",
    "fact": "InvalidFacts", "rows": "InvalidFacts", "together": "InvalidFacts", "apart": "InvalidFacts",
    "distances": "InvalidDistances",
}
ERRORS_OF_INTEGERS = {
    "guests": "InvalidGuests", "weight": "InvalidWeight", "guest": "InvalidGuest", "mate": "InvalidGuest",
    "index": "InvalidIndex",
}


def odd_objects():
    """Objects that are valid nowhere, those of the package's own classes among them."""
    hall = Hall(2)
    hall.open_table()
    deep = []
    for _ in range(19):
        deep = [deep]
    return [
        None, True, False, 10 ** 31 - 1, "", "left", (), {}, {"0": [0]}, hall, Hall(), HallError("0"), Refused("full"),
        deep, (deep,), [hall], [Hall(), 0], [(hall,)], [("left", hall, 0)], [("left", 0, True)], [(hall, 0)], [None],
        [True], [[True]], [""], [{}], [{"0": hall}], [(0, [1])], [[0, 1], None], ["left", 0, 0], [[]] * 2000,
        [-1], [10 ** 31 - 1, -1], {"left": 0}, [(1, 1, 1, 1)], [(True, 0)], [(0, None)], [("open",)],
    ]


def function_of(file, name):
    return getattr(importlib.import_module("newtables." + file), name)


def all_calls():
    return [(file, name, arguments) for file, names in INTERFACE.items() for name, arguments in names.items()]


def lists_in(value):
    """The ids of all lists in a value, also of those inside others."""
    if not isinstance(value, (list, tuple)):
        return []
    own = [id(value)] if isinstance(value, list) else []
    return own + [one for item in value for one in lists_in(item)]


def kinds_in(value):
    """The kinds of a value and of all that is in it."""
    inner = value if isinstance(value, (list, tuple)) else []
    return [type(value)] + [kind for item in inner for kind in kinds_in(item)]


class InterfaceTest(unittest.TestCase):

    def test_functions_are_defined_in_their_file_with_their_arguments(self):
        for file, names in INTERFACE.items():
            tree = ast.parse((PACKAGE / (file + ".py")).read_text())
            defined = {node.name for node in tree.body if isinstance(node, ast.FunctionDef)}
            for name, arguments in names.items():
                with self.subTest(name=name):
                    self.assertIn(name, defined)
                    signature = inspect.signature(function_of(file, name))
                    self.assertEqual(list(signature.parameters), list(arguments))

    def test_arguments_by_position_and_by_name(self):
        for file, name, arguments in all_calls():
            with self.subTest(name=name):
                function = function_of(file, name)
                by_name = function(**arguments)
                self.assertEqual(function(*arguments.values()), by_name)
                turned = dict(reversed(list(arguments.items())))
                self.assertEqual(function(**turned), by_name)


class ArgumentsAndResultsTest(unittest.TestCase):

    def test_arguments_stay_as_they_were(self):
        for file, name, arguments in all_calls():
            with self.subTest(name=name):
                passed = copy.deepcopy(arguments)
                function_of(file, name)(**passed)
                self.assertEqual(passed, arguments)

    def test_arguments_of_failing_calls_stay_as_they_were(self):
        for file, name, _, *arguments in WRONG_CALLS:
            passed = copy.deepcopy(arguments)
            with self.assertRaises(HallError):
                function_of(file, name)(*passed)
            self.assertEqual(passed, arguments)

    def test_returned_lists_are_new(self):
        calls = [(file, name, list(arguments.values())) for file, name, arguments in all_calls()]
        calls += [(file, name, arguments) for file, name, *arguments in CALLS_THAT_CHANGE_NOTHING]
        for file, name, arguments in calls:
            with self.subTest(name=name):
                function = function_of(file, name)
                first = function(*arguments)
                second = function(*arguments)
                self.assertEqual(first, second)
                ids = lists_in(first) + lists_in(second) + lists_in(arguments)
                self.assertEqual(len(ids), len(set(ids)))

    def test_a_changed_answer_does_not_change_the_next_one(self):
        for file, name, arguments in all_calls():
            answer = function_of(file, name)(**arguments)
            if isinstance(answer, list):
                kept = copy.deepcopy(answer)
                answer.clear()
                self.assertEqual(function_of(file, name)(**arguments), kept)

    def test_fractions_are_tuples_without_a_common_divisor(self):
        answers = [function_of(file, name)(**INTERFACE[file][name]) for file, name in FRACTIONS]
        for file, name in LISTS_OF_FRACTIONS:
            found = function_of(file, name)(**INTERFACE[file][name])
            self.assertIs(type(found), list)
            answers += found
        for answer in answers:
            self.assertIs(type(answer), tuple)
            self.assertEqual([type(part) for part in answer], [int, int])
            self.assertEqual(gcd(*answer), 1)
            self.assertGreaterEqual(answer[0], 0)
            self.assertGreaterEqual(answer[1], 1)

    def test_answers_that_are_truths_are_booleans(self):
        for file, name in TRUTHS:
            self.assertIs(function_of(file, name)(**INTERFACE[file][name]), True)

    def test_all_other_answers_are_no_booleans(self):
        for file, name, arguments in all_calls():
            if (file, name) not in TRUTHS:
                with self.subTest(name=name):
                    kinds = kinds_in(function_of(file, name)(**arguments))
                    self.assertLessEqual(set(kinds), {int, str, list, tuple})

    def test_answers_may_be_passed_back(self):
        shares = function_of("weights", "total_weight")(20, 10 ** 12)
        self.assertEqual(function_of("seatings", "steps_left")([1, 0], 0, shares), 0)
        self.assertIs(function_of("seatings", "is_seating")(function_of("weights", "mean_tables")(3, 2)), False)


class ErrorsTest(unittest.TestCase):

    def test_the_first_wrong_argument_decides(self):
        for file, name, error, *arguments in WRONG_CALLS:
            with self.subTest(name=name, error=error):
                with self.assertRaises(HallError) as caught:
                    function_of(file, name)(*arguments)
                self.assertEqual(type(caught.exception).__name__, error)

    def test_the_first_wrong_argument_decides_by_name_too(self):
        for file, name, error, *arguments in WRONG_CALLS:
            with self.subTest(name=name, error=error):
                named = dict(zip(INTERFACE[file][name], arguments))
                with self.assertRaises(HallError) as caught:
                    function_of(file, name)(**dict(reversed(list(named.items()))))
                self.assertEqual(type(caught.exception).__name__, error)

    def test_any_object(self):
        for file, name, arguments in all_calls():
            for argument in arguments:
                if argument in ERRORS_OF_OBJECTS and not name.startswith("write_"):
                    for thing in odd_objects():
                        self.check_error(file, name, {**arguments, argument: thing}, ERRORS_OF_OBJECTS[argument])

    def test_any_object_is_no_thing(self):
        for file, name, arguments in all_calls():
            if "thing" in arguments:
                for thing in odd_objects():
                    self.assertIs(function_of(file, name)(**{**arguments, "thing": thing}), False)

    def test_booleans_are_no_integers(self):
        for file, name, arguments in all_calls():
            for argument, value in arguments.items():
                if type(value) is int and argument != "thing":
                    for wrong in (True, False):
                        error = ERRORS_OF_INTEGERS.get(argument, "InvalidNumber")
                        self.check_error(file, name, {**arguments, argument: wrong}, error)

    def check_error(self, file, name, arguments, error):
        with self.subTest(name=name, arguments=arguments):
            with self.assertRaises(HallError) as caught:
                function_of(file, name)(**arguments)
            self.assertEqual(type(caught.exception).__name__, error)


class FolderTest(unittest.TestCase):

    def test_the_folder_holds_python_files_alone(self):
        names = [path.name for path in PACKAGE.iterdir() if path.name != "__pycache__"]
        self.assertIn("__init__.py", names)
        self.assertEqual([name for name in names if not name.endswith(".py")], [])


if __name__ == "__main__":
    unittest.main()
