"""Diagrams and trails."""
