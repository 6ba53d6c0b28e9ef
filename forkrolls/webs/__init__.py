"""Webs of deeds, lots of them, what stands in a lot, and orders of it."""
