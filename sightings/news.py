"""News of sightings, from several hands, in whatever turn they come."""

from sightings.errors import BadHand, BadOwn, TooMany, Unlike
from sightings.walks import MOST_SIGHTINGS, check_land, check_place, check_tick, is_within

LAST_HAND = 3
LAST_OWN = 9


def check_source(hand, own):
    if not is_within(hand, 0, LAST_HAND):
        raise BadHand("there is no such hand")
    if not is_within(own, 0, LAST_OWN):
        raise BadOwn("a hand has no such number")


class News:
    """What was heard and struck, each by its hand and number."""

    def __init__(self, land):
        check_land(land)
        places, ways, last = land
        self.places = places
        self.last = last
        self.heard = {}
        self.struck = {}

    def hear(self, hand, own, tick, place):
        check_source(hand, own)
        check_tick(tick, self.last)
        check_place(place, self.places)
        source = (hand, own)
        if source in self.heard:
            if self.heard[source] != (tick, place):
                raise Unlike("another sighting was heard of this hand and number")
            return False
        if len(self.heard) >= MOST_SIGHTINGS:
            raise TooMany("no more sightings can be heard")
        self.heard[source] = (tick, place)
        return True

    def strike(self, hand, own):
        check_source(hand, own)
        source = (hand, own)
        # What is struck before it is heard must not stand when it comes, so this is kept apart.
        new = source not in self.struck
        self.struck[source] = True
        return new

    def sightings(self):
        return [self.heard[source] for source in sorted(self.heard) if source not in self.struck]
