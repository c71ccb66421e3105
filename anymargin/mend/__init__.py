"""Doors whose taking away gives a margin."""
