"""Exact fractions, graphs, and the checks that all modules share."""
