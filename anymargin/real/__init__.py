"""Real machines: clocks that run apart, programs that look at ticks, moments that were seen."""
