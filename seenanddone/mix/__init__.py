"""One instrument, and mixes of kinds of folk."""
