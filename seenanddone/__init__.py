"""What is seen, what is the same, and what would be seen after a deed."""
