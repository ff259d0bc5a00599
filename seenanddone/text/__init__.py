"""Texts, and a shell."""
