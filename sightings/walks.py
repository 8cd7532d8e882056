"""Lands, walks and sightings: what is one, and what all other files need to know of them."""

from sightings.errors import BadLand, BadPlace, BadSightings, BadTick

MOST_PLACES = 7
MOST_WAYS = 10
MOST_LAST = 10
MOST_SIGHTINGS = 8


def is_number(thing):
    # In Python True and False are integers; here they are no numbers.
    return isinstance(thing, int) and not isinstance(thing, bool)


def is_within(thing, least, most):
    return is_number(thing) and least <= thing <= most


def is_way(thing, places):
    if not isinstance(thing, tuple) or len(thing) != 2:
        return False
    one, other = thing
    return is_within(one, 0, places - 1) and is_within(other, one + 1, places - 1)


def are_ways(thing, places):
    if not isinstance(thing, list) or len(thing) > MOST_WAYS:
        return False
    if not all([is_way(way, places) for way in thing]):
        return False
    return all([one < other for one, other in zip(thing, thing[1:])])


def is_land(thing):
    if not isinstance(thing, tuple) or len(thing) != 3:
        return False
    places, ways, last = thing
    return is_within(places, 1, MOST_PLACES) and are_ways(ways, places) and is_within(last, 1, MOST_LAST)


def is_sighting(thing, land):
    if not isinstance(thing, tuple) or len(thing) != 2:
        return False
    places, ways, last = land
    tick, place = thing
    return is_within(tick, 0, last) and is_within(place, 0, places - 1)


def are_sightings(thing, land):
    if not isinstance(thing, list) or len(thing) > MOST_SIGHTINGS:
        return False
    return all([is_sighting(sighting, land) for sighting in thing])


def is_walk(thing, land):
    places, ways, last = land
    if not isinstance(thing, list) or len(thing) != last + 1:
        return False
    if not all([is_within(place, 0, places - 1) for place in thing]):
        return False
    return all([after in next_places(land, here) for here, after in zip(thing, thing[1:])])


def check_land(land):
    if not is_land(land):
        raise BadLand("this is no land")


def check_place(place, places):
    if not is_within(place, 0, places - 1):
        raise BadPlace("this is no place of the land")


def check_tick(tick, last):
    if not is_within(tick, 0, last):
        raise BadTick("this is no tick from 0 to the last")


def check_question(land, sightings):
    """Refuse what most questions begin with, in the order in which it is told."""
    check_land(land)
    if not are_sightings(sightings, land):
        raise BadSightings("these are no sightings of the land")


def next_places(land, place):
    """Tell where the beast can be one tick after it was at the place, rising."""
    places, ways, last = land
    return [other for other in range(places) if other == place or (min(place, other), max(place, other)) in ways]


def ways_from(land, start):
    """Tell for each place how many ways must be gone to it at the least, None if it can't be."""
    places, ways, last = land
    least = [None] * places
    least[start] = 0
    front = [start]
    while front:
        farther = []
        for here in front:
            for near in next_places(land, here):
                if least[near] is None:
                    least[near] = least[here] + 1
                    farther.append(near)
        front = farther
    return least


def least_ways(land):
    """Tell the least ways from each place to each place."""
    places, ways, last = land
    return [ways_from(land, start) for start in range(places)]


def go_together(least, one, other):
    """Tell whether some walk meets both sightings, by the least ways of their land."""
    tick, place = one
    other_tick, other_place = other
    many = least[place][other_place]
    return many is not None and many <= abs(tick - other_tick)


def count_met(walk, sightings):
    return len([tick for tick, place in sightings if walk[tick] == place])
