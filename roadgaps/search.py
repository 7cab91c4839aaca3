"""Which roads fit a list of distances, found by trying places one by one."""

from roadgaps.errors import TooMany
from roadgaps.gaps import check_gaps, least_lacking, rest_without
from roadgaps.roads import check_road, gaps_between, mirrored

MOST_TWIN_PLACES = 7


# What each road that fits must have, ahead of any trial.
def sure_places(gaps):
    if gaps == []:
        return [0]
    return [0, gaps[-1]]


def with_place(places, place):
    return sorted(places + [place])


def places_to_try(places, rest):
    if rest == []:
        return []
    # The list rises, so its last distance is the greatest.
    ends = sorted(set([rest[-1], places[-1] - rest[-1]]))
    return [place for place in ends if place not in places]


# The places lack nothing: what is left over of the list can be told.
def trials_behind(places, gaps):
    found = []
    for place in places_to_try(places, rest_without(places, gaps)):
        together = with_place(places, place)
        lack = least_lacking(together, gaps)
        further = []
        if lack is None:
            further = trials_behind(together, gaps)
        found.append((place, lack, further))
    return found


def roads_behind(places, tried, gaps):
    if rest_without(places, gaps) == []:
        return [places]
    found = []
    for place, lack, further in tried:
        if lack is None:
            found.extend(roads_behind(with_place(places, place), further, gaps))
    return found


def trials(gaps):
    check_gaps(gaps)
    return trials_behind(sure_places(gaps), gaps)


def roads(gaps):
    tried = trials(gaps)
    told = []
    # Places tried in another order may come to the same road.
    for road in sorted(roads_behind(sure_places(gaps), tried, gaps)):
        if road not in told:
            told.append(road)
    return told


def first_road(gaps):
    found = roads(gaps)
    if found == []:
        return None
    return found[0]


def twins(road):
    check_road(road)
    if len(road) > MOST_TWIN_PLACES:
        raise TooMany(f"twins are told of roads with at most {MOST_TWIN_PLACES} places")
    known = (road, mirrored(road))
    return [other for other in roads(gaps_between(road)) if other not in known]
