"""Nearnames: houses that find one another by likeness of names."""
