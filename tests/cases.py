"""Roads, lists of distances and what is neither, for all the tests; and what they share in asking."""

import itertools

from roadgaps.errors import RoadError

NO_ROADS = {
    "no place": [],
    "fifty-one places": list(range(51)),
    "fifty-one places up to 4000": list(range(0, 4000, 80)) + [4000],
    "many more places": list(range(200)),
    "one place that is not nought": [1],
    "one place below nought": [-1],
    "the first place above nought": [1, 2, 5],
    "the first place below nought": [-1, 0, 5],
    "the length above 4000": [0, 4001],
    "the length above 4000 behind others": [0, 1, 3999, 4000, 4001],
    "nought twice": [0, 0],
    "a place twice": [0, 2, 2, 5],
    "the last place twice": [0, 5, 5],
    "falling at the end": [0, 5, 3],
    "falling in the middle": [0, 5, 3, 8],
    "falling at the start": [0, -2, 8],
    "falling throughout": [5, 3, 0],
    "above 4000 in the middle": [0, 4001, 5],
}

ROADS = {
    "one place": [0],
    "two places": [0, 1],
    "the greatest length": [0, 4000],
    "fifty places": list(range(50)),
    "fifty places up to 4000": list(range(49)) + [4000],
    "a ruler": [0, 1, 4, 6],
}

TOO_MANY = {
    "22 alike": [1] * 22,
    "22 rising": list(range(1, 23)),
    "22 up to 4000": list(range(3979, 4001)),
    "many more": list(range(1, 101)),
    "22 with nought": [0] + list(range(1, 22)),
    "22 with one below nought": [-1] + list(range(1, 22)),
    "22 with 4001": list(range(1, 22)) + [4001],
    "22 falling": list(range(22, 0, -1)),
}

NO_GAPS = {
    "nought": [0],
    "nought ahead of others": [0, 1, 2],
    "below nought": [-1],
    "below nought ahead of others": [-3, 1, 2],
    "above 4000": [4001],
    "above 4000 behind others": [1, 2, 4001],
    "above 4000 ahead of others": [4001, 1],
    "falling": [2, 1],
    "falling at the end": [1, 3, 3, 2],
    "falling in the middle": [1, 5, 4, 6],
    "falling to nought": [1, 0],
    "21 with nought": [0] + list(range(1, 21)),
    "21 falling": list(range(21, 0, -1)),
}

GAPS = {
    "none": [],
    "the least": [1],
    "the greatest": [4000],
    "the least and the greatest": [1, 4000],
    "alike": [3, 3, 3],
    "21 rising": list(range(1, 22)),
    "21 of the least": [1] * 21,
    "21 of the greatest": [4000] * 21,
    "21 up to 4000": list(range(3980, 4001)),
}


def small_roads(length):
    """All roads whose places lie from nought to the length."""
    for size in range(length + 1):
        for places in itertools.combinations(range(1, length + 1), size):
            yield [0] + list(places)


def refusal_of(ask, *handed_in):
    """The very class that the call is refused with, or None."""
    try:
        ask(*handed_in)
    except RoadError as refusal:
        return type(refusal)
    return None


def lists_within(told):
    """Every list in what is told, itself and those within its lists and tuples."""
    if isinstance(told, list):
        yield told
    if isinstance(told, (list, tuple)):
        for part in told:
            yield from lists_within(part)
