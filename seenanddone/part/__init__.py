"""Deeds that part a picture."""
