"""The walks that meet all sightings: how many, which by its number, and where they are."""

from sightings.errors import BadNumber, BadWalk, NoWalk
from sightings.walks import check_place, check_question, check_tick
from sightings.walks import count_met, is_walk, is_within, next_places


def how_many(land, sightings):
    check_question(land, sightings)
    return count_walks(land, sightings)


def walk_by(land, sightings, number):
    check_question(land, sightings)
    table = ways_on(land, sightings)
    if not is_within(number, 0, sum(table[0]) - 1):
        raise BadNumber("no walk has this number")
    left = number
    walk = []
    for row in table:
        choices = choices_after(land, walk)
        at = 0
        while left >= row[choices[at]]:
            left -= row[choices[at]]
            at += 1
        walk.append(choices[at])
    return walk


def number_of(land, sightings, walk):
    check_question(land, sightings)
    if not is_walk(walk, land) or count_met(walk, sightings) < len(sightings):
        raise BadWalk("this is no walk that meets all sightings")
    number = 0
    for tick, row in enumerate(ways_on(land, sightings)):
        choices = choices_after(land, walk[:tick])
        number += sum([row[place] for place in choices if place < walk[tick]])
    return number


def share(land, sightings, place, tick):
    check_question(land, sightings)
    places, ways, last = land
    check_place(place, places)
    check_tick(tick, last)
    bottom = count_walks(land, sightings)
    if bottom == 0:
        raise NoWalk("no walk meets all sightings")
    # A walk is there then just if it meets this sighting, too.
    top = count_walks(land, [*sightings, (tick, place)])
    common = common_measure(top, bottom)
    return top // common, bottom // common


def count_walks(land, sightings):
    return sum(ways_on(land, sightings)[0])


def ways_on(land, sightings):
    """Tell for each tick and place how many ends of walks begin there and meet all sightings from then on."""
    places, ways, last = land
    table = []
    for tick in range(last, -1, -1):
        after = table[0] if table else None
        table.insert(0, [ends_from(land, sightings, tick, place, after) for place in range(places)])
    return table


def ends_from(land, sightings, tick, place, after):
    if any([when == tick and seen != place for when, seen in sightings]):
        return 0
    if after is None:
        return 1
    return sum([after[near] for near in next_places(land, place)])


def choices_after(land, begun):
    """Tell where a walk that is begun so can be next, rising."""
    places, ways, last = land
    return next_places(land, begun[-1]) if begun else list(range(places))


def common_measure(one, other):
    while other:
        one, other = other, one % other
    return one
