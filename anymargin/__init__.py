"""Machines with clocks that hold with some margin, or fail with every one."""
