"""Zones: the readings that keep bounds of differences."""
