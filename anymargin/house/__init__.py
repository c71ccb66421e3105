"""A desk at which a machine is edited."""
