"""Tables and worlds."""
