"""Rooms of a kind or better, each night, with the fewest moves."""
