"""Beltgarth: a machine without places."""
