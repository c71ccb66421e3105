"""What rooms are come to: exactly, within a margin, with every margin."""
