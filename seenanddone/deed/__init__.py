"""What deeds bring, and what tells it."""
