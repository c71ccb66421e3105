"""Real machines: clocks that run apart."""
