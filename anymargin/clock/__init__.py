"""Readings of clocks: their classes, and the corners of the closures of these."""
