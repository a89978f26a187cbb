"""Askwright: things made by rules that ask, and all kept runs as trees of asks."""
