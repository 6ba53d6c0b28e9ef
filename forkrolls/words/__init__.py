"""Texts for what the program takes and tells, and a desk that speaks them."""
