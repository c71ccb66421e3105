"""Texts of values, and a shell that answers line by line."""
