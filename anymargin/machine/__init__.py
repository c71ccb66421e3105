"""Machines: rooms, doors and clocks."""
