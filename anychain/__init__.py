"""Anychain: what is read back through every chain of relays."""
