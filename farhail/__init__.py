"""Farhail: places and ties known by how far they are from few lookouts."""
