"""What to adjust for."""
