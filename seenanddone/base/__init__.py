"""Fractions, names and lots."""
