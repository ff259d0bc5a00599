"""Which diagrams cannot be told apart by looking."""
