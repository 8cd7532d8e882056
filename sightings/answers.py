"""Answers, each with the walk or the marks that show it."""

from sightings.walks import count_met, go_together, is_number, is_walk, least_ways


def parts(marks, land, sightings):
    """Tell whether each sighting has a mark, a number or None, and no two with the same number go together."""
    if len(marks) != len(sightings):
        return False
    if not all([mark is None or is_number(mark) for mark in marks]):
        return False
    least = least_ways(land)
    for at, mark in enumerate(marks):
        for before in range(at):
            alike = mark is not None and mark == marks[before]
            if alike and go_together(least, sightings[at], sightings[before]):
                return False
    return True


def leaves_out_rightly(marks, land, sightings, asked):
    """Tell whether only sightings that don't go together with the asked one are left without a number."""
    least = least_ways(land)
    left = [sighting for mark, sighting in zip(marks, sightings) if mark is None]
    return not any([go_together(least, sighting, asked) for sighting in left])


def count_unlike(marks):
    return len({mark for mark in marks if mark is not None})


class Answer:
    """What is told of a land and sightings."""


class Kept(Answer):
    """A walk that meets as many sightings as can be, and marks by which no walk meets more."""

    def __init__(self, walk, marks):
        self.walk = list(walk)
        self.marks = list(marks)

    def shows(self, land, sightings):
        if not is_walk(self.walk, land) or None in self.marks or not parts(self.marks, land, sightings):
            return False
        return count_unlike(self.marks) == count_met(self.walk, sightings)


class There(Answer):
    """A walk that is at the asked place at the asked tick, with few enough sightings wrong."""

    def __init__(self, walk):
        self.walk = list(walk)

    def shows(self, land, sightings, place, tick, wrong):
        if not is_walk(self.walk, land) or self.walk[tick] != place:
            return False
        return count_met(self.walk, sightings) >= len(sightings) - wrong


class Barred(Answer):
    """Marks by which every walk at the asked place at the asked tick has too many sightings wrong."""

    def __init__(self, marks):
        self.marks = list(marks)

    def shows(self, land, sightings, place, tick, wrong):
        if not parts(self.marks, land, sightings):
            return False
        if not leaves_out_rightly(self.marks, land, sightings, (tick, place)):
            return False
        return count_unlike(self.marks) < len(sightings) - wrong
