"""Kinnames: names made like told names."""
