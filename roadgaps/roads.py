"""Roads: rising lists of places from nought, and the distances between them."""

from roadgaps.errors import NoRoad

MOST_PLACES = 50
LONGEST = 4000


def is_road(places):
    if not 1 <= len(places) <= MOST_PLACES:
        return False
    if places[0] != 0 or places[-1] > LONGEST:
        return False
    return all([places[k - 1] < places[k] for k in range(1, len(places))])


def check_road(places):
    if not is_road(places):
        raise NoRoad(f"a road has 1 to {MOST_PLACES} rising places, the first 0, the last at most {LONGEST}")


# Apart from distances, so that places that were checked already are not checked again.
def gaps_between(places):
    found = []
    for k in range(len(places)):
        found.extend([place - places[k] for place in places[k + 1:]])
    return sorted(found)


def distances(road):
    check_road(road)
    return gaps_between(road)


def mirrored(road):
    check_road(road)
    # Walked from the far end, because the farthest place comes to lie nearest.
    return [road[-1] - place for place in reversed(road)]


def spread(road):
    check_road(road)
    counts = [0] * (road[-1] + 1)
    # No distance is nought: what stands there are the pairs of a place with itself.
    counts[0] = len(road)
    for gap in gaps_between(road):
        counts[gap] += 1
    return counts
