"""Roads and lists of distances as texts."""

from roadgaps.errors import BadText, NoGaps, NoRoad, TooMany
from roadgaps.gaps import check_gaps
from roadgaps.roads import check_road

ROAD_WORD = "road"
GAPS_WORD = "gaps"


def shown(word, numbers):
    return " ".join([word] + [str(number) for number in numbers])


def road_shown(road):
    check_road(road)
    return shown(ROAD_WORD, road)


def gaps_shown(gaps):
    check_gaps(gaps)
    return shown(GAPS_WORD, gaps)


def read_number(part):
    try:
        number = int(part)
    except ValueError:
        raise BadText(f"{part!r} is no number") from None
    # More is taken for a number than what is written: blanks, noughts ahead, signs, underscores.
    if str(number) != part:
        raise BadText(f"{part!r} is not how a number is written")
    return number


def read_numbers(word, text):
    # At each single blank, so that a blank too many leaves an empty part, which is no number.
    parts = text.split(" ")
    if parts[0] != word:
        raise BadText(f"the text does not begin with the word {word}")
    return [read_number(part) for part in parts[1:]]


def read_road(text):
    places = read_numbers(ROAD_WORD, text)
    try:
        check_road(places)
    except NoRoad:
        raise BadText("the text writes no road") from None
    return places


def read_gaps(text):
    gaps = read_numbers(GAPS_WORD, text)
    try:
        check_gaps(gaps)
    except (TooMany, NoGaps):
        raise BadText("the text writes no list of distances") from None
    return gaps
