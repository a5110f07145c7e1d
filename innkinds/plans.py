"""All nights: each by the rooms of the night ahead."""

from innkinds.errors import Full
from innkinds.needs import NIGHTS, rooms_on, short_night, wants_on
from innkinds.tonight import tonight


def nights_of(stays):
    """How many nights there are up to the last one of any stay."""
    return min(NIGHTS, max([span[1] for span in stays.values()], default=0))


def plan(counts, closings, stays):
    """A list of what tonight tells of each night up to the last one of any stay."""
    short = short_night(counts, closings, stays)
    if short is not None:
        night, kind = short
        raise Full(night, kind)
    told = []
    ahead = {}
    for night in range(nights_of(stays)):
        rooms = rooms_on(counts, closings, night)
        wants = wants_on(stays, night)
        told.append(tonight(counts, rooms, wants, ahead))
        ahead = told[night][0]
    return told
