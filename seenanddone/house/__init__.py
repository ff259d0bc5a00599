"""Studies that are kept in editions, by several people, for several viewers."""
