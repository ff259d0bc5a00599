"""Straight worlds: sums with weights."""
