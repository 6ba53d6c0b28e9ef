"""Deeds: how they are asked for, and what is made of them."""
