"""Normalwords: groups told by machines."""
