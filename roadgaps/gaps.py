"""Lists of distances, and how a road stands beside one."""

from roadgaps.errors import NoGaps, TooMany
from roadgaps.roads import LONGEST, check_road, gaps_between

MOST_GAPS = 21


def check_gaps(gaps):
    # The number of distances is looked at first: TooMany comes ahead of NoGaps.
    if len(gaps) > MOST_GAPS:
        raise TooMany(f"a list of distances has at most {MOST_GAPS} numbers")
    least = 1
    for gap in gaps:
        if not least <= gap <= LONGEST:
            raise NoGaps(f"a list of distances has rising numbers from 1 to {LONGEST}")
        least = gap


def check_both(road, gaps):
    check_road(road)
    check_gaps(gaps)


def least_lacking(places, gaps):
    needed = gaps_between(places)
    # These rise, so the first one found is the least.
    for gap in needed:
        if gaps.count(gap) < needed.count(gap):
            return gap
    return None


# None where the places are not part of the list.
def rest_without(places, gaps):
    if least_lacking(places, gaps) is not None:
        return None
    rest = list(gaps)
    for gap in gaps_between(places):
        rest.remove(gap)
    return rest


def lacks(road, gaps):
    check_both(road, gaps)
    return least_lacking(road, gaps)


def part_of(road, gaps):
    check_both(road, gaps)
    return least_lacking(road, gaps) is None


def left_over(road, gaps):
    check_both(road, gaps)
    return rest_without(road, gaps)


def fits(road, gaps):
    return left_over(road, gaps) == []
