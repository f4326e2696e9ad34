"""The text of a land: a row for the number of places, one for each road, one for each lamp."""

from lampwalks.errors import BadText, Refused
from lampwalks.lands import MOST_PLACES, made_land
from lampwalks.roads import check_roads
from lampwalks.webs import made_web

MOST_NUMBER = 100


def number_of(word, most):
    """The number from 0 to most that the word is in digits; None if it is none."""
    # digits of other scripts are digits, too
    if not word.isascii() or not word.isdigit() or len(word) > len(str(most)):
        return None
    number = int(word)
    # with a leading 0 it would not be written so
    if number > most or str(number) != word:
        return None
    return number


def land_text(land):
    """The text of the land."""
    roads = [f"road {x} {y} {length}" for x, y, length in land.roads]
    lamps = [" ".join([f"lamp {lamp.many}"] + [f"{p}-{q}:{length}" for p, q, length in lamp.roads])
             for lamp in land.lamps]
    return "\n".join([f"land {land.many}"] + roads + lamps)


def land_of(text):
    """The land that has this text."""
    rows = text.split("\n")
    n = _many_places(rows[0])
    roads = ()
    lamps = ()
    for i, row in enumerate(rows[1:], start=1):
        road = _road_of(row, n, roads)
        lamp = _lamp_of(row)
        if road is not None and len(lamps) == 0:
            roads = roads + (road,)
        elif lamp is not None and len(lamps) < n:
            lamps = lamps + (lamp,)
        else:
            raise BadText(i)
    try:
        return made_land(n, roads, lamps)
    except Refused:
        # lamps that are missing are missing at this index, too
        raise BadText(len(rows)) from None


def _many_places(row):
    """The number of places that the first row tells."""
    words = row.split(" ")
    if len(words) != 2 or words[0] != "land":
        raise BadText(0)
    n = number_of(words[1], MOST_PLACES)
    if n is None or n == 0:
        raise BadText(0)
    return n


def _numbers_of(words):
    """The numbers that the words are, with None for each word that is none."""
    return tuple([number_of(word, MOST_NUMBER) for word in words])


def _road_of(row, n, roads):
    """The road that a row tells; None if it is bad behind these roads in a land of n places."""
    words = row.split(" ")
    if words[0] != "road":
        return None
    road = _numbers_of(words[1:])
    try:
        check_roads(n, roads + (road,))
    except Refused:
        return None
    return road


def _lamp_of(row):
    """The web that a row tells; None if it is bad."""
    words = row.split(" ")
    if len(words) < 2 or words[0] != "lamp":
        return None
    m = number_of(words[1], MOST_NUMBER)
    if m is None:
        return None
    try:
        return made_web(m, tuple([_numbers_of(_parts_of(word)) for word in words[2:]]))
    except Refused:
        return None


def _parts_of(word):
    """The three parts of a word P-Q:L, empty ones where a sign is missing."""
    p, dash, behind = word.partition("-")
    q, colon, length = behind.partition(":")
    return (p, q, length)
