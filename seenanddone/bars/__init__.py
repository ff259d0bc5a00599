"""What bars two lots, and what shows that nothing does."""
