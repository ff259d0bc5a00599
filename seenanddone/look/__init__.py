"""The worth of looks ahead of a deed."""
