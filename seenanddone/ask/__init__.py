"""Questions and papers as data."""
