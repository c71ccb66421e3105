"""Lesser machines, which keep all answers."""
