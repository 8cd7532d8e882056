"""The refusals, one class for each."""


class SightError(ValueError):
    """Any refusal of this package."""


class BadLand(SightError):
    """No land."""


class BadPlace(SightError):
    """No place of the land."""


class BadTick(SightError):
    """No tick from 0 to the last."""


class BadSightings(SightError):
    """No list of sightings of the land."""


class BadWrong(SightError):
    """No number from 0 to as many as there are sightings."""


class BadNumber(SightError):
    """No number of a walk that meets all sightings."""


class BadWalk(SightError):
    """No walk that meets all sightings."""


class BadHand(SightError):
    """No number of a hand."""


class BadOwn(SightError):
    """No number that a hand gives to a sighting."""


class NoWalk(SightError):
    """No walk meets all sightings, so there are no shares."""


class Unlike(SightError):
    """Another sighting was heard of that hand and number."""


class TooMany(SightError):
    """As many sightings as can be were heard already."""
