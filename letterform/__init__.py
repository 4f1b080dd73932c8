"""Letterform: forms filled with values, and read back."""
