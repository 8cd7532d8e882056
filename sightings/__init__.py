"""Sightings of a strayed beast on places and ways, some of them wrong."""
