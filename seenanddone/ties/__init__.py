"""Webs of ties without arrows."""
