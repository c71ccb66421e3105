"""The judge of claims and papers."""
