"""Walks that meet as many sightings as can be, and marks by which no walk meets more."""

from sightings.answers import Barred, Kept, There
from sightings.errors import BadWrong
from sightings.walks import check_land, check_place, check_question, check_tick
from sightings.walks import go_together, is_within, least_ways, next_places, ways_from


def steps(land, one, other):
    check_land(land)
    places, ways, last = land
    check_place(one, places)
    check_place(other, places)
    return ways_from(land, one)[other]


def kept(land, sightings):
    check_question(land, sightings)
    least = least_ways(land)
    ranks = rank(least, sightings, list(range(len(sightings))))
    row = longest_row(least, sightings, ranks)
    return Kept(walk_through(land, least, row), marks_of(ranks, sightings))


def there(land, sightings, place, tick, wrong):
    check_question(land, sightings)
    places, ways, last = land
    check_place(place, places)
    check_tick(tick, last)
    if not is_within(wrong, 0, len(sightings)):
        raise BadWrong("so many sightings can't be wrong")
    least = least_ways(land)
    asked = (tick, place)
    near = [at for at, sighting in enumerate(sightings) if go_together(least, sighting, asked)]
    ranks = rank(least, sightings, near)
    row = longest_row(least, sightings, ranks)
    if len(row) < len(sightings) - wrong:
        return Barred(marks_of(ranks, sightings))
    # Each of the row goes together with the asked one, so all of them lie on one walk.
    return There(walk_through(land, least, sorted([*row, asked])))


def rank(least, sightings, chosen):
    """Tell how many sightings, that one too, a walk that ends at each chosen one meets at the most.

    Only chosen sightings, given by their indexes, are counted. Two that go
    together never have the same rank: the later one has the greater rank.
    So the ranks are marks. They are kept in the order of the ticks.
    """
    ranks = {}
    for at in sorted(chosen, key=lambda index: sightings[index]):
        before = [ranks[index] for index in ranks if go_together(least, sightings[index], sightings[at])]
        ranks[at] = 1 + max(before, default=0)
    return ranks


def marks_of(ranks, sightings):
    return [ranks.get(at) for at in range(len(sightings))]


def longest_row(least, sightings, ranks):
    """Tell sightings in order of their ticks that one walk meets, one of each rank."""
    wanted = max(list(ranks.values()), default=0)
    row = []
    for at in reversed(list(ranks)):
        if ranks[at] == wanted and (not row or go_together(least, sightings[at], row[0])):
            row.insert(0, sightings[at])
            wanted -= 1
    return row


def walk_through(land, least, row):
    """Tell a walk that meets all sightings of the row, each of which goes together with the next."""
    places, ways, last = land
    walk = [row[0][1] if row else 0]
    for tick in range(1, last + 1):
        ahead = [place for when, place in row if when >= tick]
        here = walk[-1]
        walk.append(step_towards(land, least, here, ahead[0]) if ahead else here)
    return walk


def step_towards(land, least, here, goal):
    return min(next_places(land, here), key=lambda place: least[place][goal])
