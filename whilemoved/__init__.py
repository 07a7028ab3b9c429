"""Whilemoved: a store that is laid out anew in its own room, and can always be read."""
