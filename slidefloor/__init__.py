"""Slidefloor: tiles on a floor with one empty place."""
