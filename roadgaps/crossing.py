"""Two roads crossed: two roads with the same distances."""

from roadgaps.errors import Meets, TooMany
from roadgaps.roads import LONGEST, MOST_PLACES, check_road, mirrored


def check_bounds(one, other):
    if len(one) * len(other) > MOST_PLACES:
        raise TooMany(f"crossed roads have at most {MOST_PLACES} places")
    if one[-1] + other[-1] > LONGEST:
        raise TooMany(f"crossed roads have at most the length {LONGEST}")


def all_sums(one, other):
    sums = []
    for place in one:
        sums.extend([place + step for step in other])
    return sorted(sums)


def check_sums(sums):
    if len(set(sums)) < len(sums):
        raise Meets("a sum of places comes twice")


def crossed(one, other):
    check_road(one)
    check_road(other)
    check_bounds(one, other)
    straight = all_sums(one, other)
    turned = all_sums(one, mirrored(other))
    check_sums(straight)
    check_sums(turned)
    return (straight, turned)
