"""What the tests share: all walks of small lands, and what the document says, told again by trying all."""

import itertools
import random

# A land of the greatest size, with places 0 to 5 in a ring with cross ways; place 6 can't be reached.
GREAT = (7, [(0, 1), (0, 3), (0, 5), (1, 2), (1, 4), (2, 3), (2, 5), (3, 4), (3, 5), (4, 5)], 10)
LEAST = (1, [], 1)
# 0 - 1 - 2, and 3 alone.
LINE = (4, [(0, 1), (1, 2)], 4)


def selfish():
    rows = []
    rows.append(rows)
    return rows


def no_numbers():
    """Things of many kinds, none of which is a number, a list or a tuple that anything asks for."""
    return [
        None, True, False, "", "0", "land", b"", b"\x00", [0], (0,), (0, 0, 0, 0), {}, {0: 0}, set(), {0}, frozenset([1]),
        object(), len, int, ..., NotImplemented, range(2), bytearray(b"\x01"), iter([0]), (n for n in [0]),
        [None], [[]], [()], [(0,)], [(0, 0, 0)], [[0, 0]], [(None, 0)], [(0, None)], [("0", 0)], [(True, 0)], [(0, False)],
        ((0, 0),), selfish(), [selfish()], lambda: 0, ValueError("0"), memoryview(b"01"), 1j,
    ]


def beyond(least, most):
    return [least - 1, most + 1, -10 ** 5000, 10 ** 5000]


def all_walks(land):
    places, ways, last = land
    walks = [[place] for place in range(places)]
    for _ in range(last):
        walks = [walk + [place] for walk in walks for place in range(places) if may_go(land, walk[-1], place)]
    return walks


def may_go(land, one, other):
    return one == other or (one, other) in land[1] or (other, one) in land[1]


def valid_walk(land, walk):
    places, _, last = land
    if len(walk) != last + 1 or any(place not in range(places) for place in walk):
        return False
    return all(may_go(land, one, other) for one, other in itertools.pairwise(walk))


def met(walk, sightings):
    return sum(walk[tick] == place for tick, place in sightings)


def distances(land):
    """Least ways, None where there are none, by trying each place between in turn."""
    places, ways, _ = land
    far = [[0 if one == other else None for other in range(places)] for one in range(places)]
    for one, other in ways:
        far[one][other] = far[other][one] = 1
    for mid, one, other in itertools.product(range(places), repeat=3):
        if far[one][mid] is not None and far[mid][other] is not None:
            through = far[one][mid] + far[mid][other]
            if far[one][other] is None or through < far[one][other]:
                far[one][other] = through
    return far


def together(land, one, other):
    many = distances(land)[one[1]][other[1]]
    return many is not None and many <= abs(one[0] - other[0])


def valid_marks(land, sightings, marks):
    if len(marks) != len(sightings):
        return False
    pairs = itertools.combinations(zip(marks, sightings), 2)
    return not any(a is not None and a == b and together(land, s, t) for (a, s), (b, t) in pairs)


def unlike(marks):
    return len(set(marks) - {None})


def is_kept(land, sightings, walk, marks):
    if not valid_walk(land, walk) or not valid_marks(land, sightings, marks):
        return False
    return None not in marks and unlike(marks) == met(walk, sightings)


def is_there(land, sightings, place, tick, wrong, walk):
    return valid_walk(land, walk) and walk[tick] == place and met(walk, sightings) >= len(sightings) - wrong


def is_barred(land, sightings, place, tick, wrong, marks):
    if not valid_marks(land, sightings, marks):
        return False
    if any(m is None and together(land, s, (tick, place)) for m, s in zip(marks, sightings)):
        return False
    return unlike(marks) < len(sightings) - wrong


def small_lands(most_places=3, most_last=2):
    """All lands up to so many places and so late a last tick."""
    for places in range(1, most_places + 1):
        pairs = list(itertools.combinations(range(places), 2))
        for many in range(len(pairs) + 1):
            for ways in itertools.combinations(pairs, many):
                for last in range(1, most_last + 1):
                    yield places, list(ways), last


def all_sightings(land):
    return list(itertools.product(range(land[2] + 1), range(land[0])))


def some_questions(many, most_places, most_last, most_sightings):
    """Lands and sightings, the same in each run."""
    chance = random.Random(20261118)
    for _ in range(many):
        places = chance.randint(1, most_places)
        pairs = list(itertools.combinations(range(places), 2))
        ways = sorted(chance.sample(pairs, chance.randint(0, min(10, len(pairs)))))
        land = (places, ways, chance.randint(1, most_last))
        yield land, chance.choices(all_sightings(land), k=chance.randint(0, most_sightings))
