"""Dialweir: nets of places and roads whose wants, rooms and prices move with two dials."""
